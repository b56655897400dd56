/- count: the reference's Pack. -/
import Derived.Test.YtffiphdbjohilaaCtRef
namespace Go.Proofs.Ytffiphdbjohilaa
open Go.ChangeShapes Go.WideShapes Go.ChangeAt Go.RowKit Go.Deep

theorem wpList_append_bsC {w : World} {ops : Array Oper} {rest : List Oper} {o : Oper} {a : Act} {Q : Exit → Act → World → Prop} (hgd : o.guard = none) (s x : Operand)
    (ho : o.op = .call { callee := .builtin .append, args := #[s, x], argTypes := #[23, 23] }) (base : Nat) (v u : Value) (zs ys : List Nat)
    (hs : a.eval s = v) (hown : Ow w base v zs) (hx : a.eval x = u) (hu : Bs w u ys) (hl : zs.length + ys.length ≤ 140737488355328) (hbase : base ≤ w.heap.size)
    (h : ∀ ao m c w', Ow w' base (.slice ao m c) (zs ++ ys) → m = zs.length + ys.length → w.grownBy w' v.ownBlock → wpList Try.prog ops Q rest (a.put o.dst (.slice ao m c)) w') : wpList Try.prog ops Q (o :: rest) a w := by
  obtain ⟨i0, hi, hz0, hz1, hz2⟩ := info_parts u8info
  obtain ⟨ao, cap, rfl, hnone, hc⟩ := hu.gen
  cases ao with
  | none =>
    obtain ⟨h0, rfl⟩ := hnone rfl
    have := List.eq_nil_of_length_eq_zero h0
    subst this
    refine wpList_plain hgd fun K hK' => ?_
    have hrun := run_append_owned_none (P := Try.prog) w base 23 o.type 5 i0 1 Try.underlying23 hi v zs.length (u8s zs) hown.own
    obtain ⟨ao', m', c', rfl⟩ := hown.slice
    have hm : m' = zs.length := by
      obtain ⟨_, _, e, _⟩ := hown.bs.gen
      simp only [Value.slice.injEq] at e
      exact e.2.1
    unfold Oper.wp
    simp only [List.length_nil] at hx
    simp [execOp, ho, resolve, invoke, builtin, hs, hx, hrun, Result.andThen]
    exact hK' _ _ (h ao' m' c' w (by rw [List.append_nil]; exact hown) (by simpa using hm) (World.grownBy.refl _ _))
  | some ad =>
    refine wpList_append_own w hgd s x 23 ho base 5 i0 (.int .u8 0) 1 1 Try.underlying23 hi hz0 hz1 hz2 rfl (by decide) v zs.length (u8s zs) hs hown.own ad ys.length cap (u8s ys) hx (by simp [u8s]) (hc ad rfl) (u8s_one ys) (by unfold maxLen; omega) (by omega) hbase ?_
    intro v' w' h1 h2 _
    have ho' : Ow w' base v' (zs ++ ys) := by
      refine ⟨?_, by rw [List.length_append]; omega, ?_⟩
      · intro z hz
        rcases List.mem_append.1 hz with hz | hz
        · exact hown.lt z hz
        · exact hu.1 z hz
      · rw [List.length_append, u8s_append]; exact h1
    obtain ⟨ao', m', c', rfl⟩ := ho'.slice
    refine h ao' m' c' w' ho' ?_ h2
    obtain ⟨_, _, e, _⟩ := ho'.bs.gen
    simp only [Value.slice.injEq] at e
    rw [e.2.1, List.length_append]
def flB (A : Nat → En) (k : Nat) : List Nat := (List.range k).flatMap fun i => ebs (A i)
theorem flB_len (A : Nat → En) (k : Nat) : (flB A k).length = 16 * k := by
  unfold flB
  induction k with
  | zero => rfl
  | succ k ih => rw [List.range_succ, List.flatMap_append, List.length_append, ih]; simp [ebs_len]; omega
theorem flB_next (A : Nat → En) (k : Nat) : flB A (k + 1) = flB A k ++ ebs (A k) := by
  unfold flB
  rw [List.range_succ, List.flatMap_append]; simp
theorem rpack_no {w : World} {v : Value} {n : Nat} {A : Nat → En} (h : Ens w v n A) (hn : 16 < n) :
    Calls Try.prog 9 #[v] w fun r w' => r = .returned (.tuple #[.slice none 0 0, .int .i64 1]) ∧ w' = w := by
  obtain ⟨ao, cap, rfl⟩ := h.len
  clear h
  go_enter Try.func9, Try.ntmps9
  go_wp2
  go_ret2
  exact ⟨rfl, rfl⟩
theorem one_zero (w : World) : Ow (w.alloc (.cells #[.int .u8 0] 5)) w.heap.size (.slice (some ⟨w.heap.size, 0, none⟩) 1 1) [0] := lit_ow w [0] (by decide) (by decide)
set_option maxRecDepth 100000 in
set_option maxHeartbeats 3000000 in
theorem rpack_any {w : World} {v : Value} {n : Nat} {A : Nat → En} (h : Ens w v n A) (hn : n ≤ 16) :
    Calls Try.prog 9 #[v] w fun r w' => ∃ v', r = .returned (.tuple #[v', .int .i64 0]) ∧ Bs w' v' (pkN A n) ∧ But (fun _ => False) w w' := by
  have HR := Hid.mk' h
  obtain ⟨ao, cap, rfl⟩ := h.len
  clear h
  go_enter Try.func9, Try.ntmps9
  go_wp2
  go_loopw [4, 5] (fun o i wr => ∃ k : Nat, k ≤ n ∧ i = .int .i64 k ∧ Ow wr w.heap.size o (flB A k) ∧ But (fun _ => False) w wr) (fun _ i _ => n - (intOf i).toNat)
  case atStart => exact ⟨0, Nat.zero_le _, rfl, Ow.nil _ _, But.refl _ _⟩
  case round =>
    obtain ⟨k, hk, rfl, ho, ht⟩ := hrel
    by_cases hlt : k < n
    · obtain ⟨b, off, rfl, hbl, hok, hc⟩ := HR.out.cells3 rfl hlt
      have HC : Hid (∀ j u, (ecells (A k))[j]? = some u → wr.cell? ((⟨b, off + k * 3, none⟩ : Addr).add j) = some u) := fun j u hu => by
        have := hc j u hu
        rw [add_plain] at this ⊢
        exact (World.cell?_of_block (ht.block b hbl (fun h => h))).trans this
      have HBY := Hid.mk' (rbytes_any (w := wr) (A k) hok)
      have HT := Hid.mk' ht
      have HO := Hid.mk' ho
      obtain ⟨al, nl, cl, rfl⟩ := ho.slice
      clear hc ht ho hok hbl
      go_wp2_with (refine wpList_load_cells rfl _ _ rfl ⟨b, off + k * 3, none⟩ rfl (ecells (A k)) _ HC.out Try.underlying39 rfl (by rw [iEn]; rfl) ?_)
      refine Calls.mono HBY.out ?_
      rintro e w2 ⟨v2, rfl, hb2, ht2⟩
      have HB2 := Hid.mk' hb2
      have HO2 := Hid.mk' (HO.out.but ht2 (fun _ _ _ h => h))
      have HT2 := Hid.mk' (HT.out.trans ht2)
      clear hb2 ht2
      go_wp2_with (refine wpList_append_bsC rfl _ _ rfl w.heap.size (.slice al nl cl) v2 (flB A k) (ebs (A k)) rfl HO2.out rfl HB2.out (by rw [flB_len, ebs_len]; omega) HT2.out.size ?_; intro a3 m3 c3 w3 ho3 hm3 hg3; clear hm3)
      rw [← flB_next] at ho3
      have hbut3 : But (fun _ => False) w w3 := HT2.out.grown hg3 (fun j hj hlt => by have := (HO2.out.ge j hj).1; omega)
      first
        | exact ⟨⟨k + 1, by omega, by go_num, ho3, hbut3⟩, by simp [intOf]; omega⟩
        | (go_wp2
           exact ⟨⟨k + 1, by omega, by go_num, ho3, hbut3⟩, by simp [intOf]; omega⟩)
    · have hkn : k = n := by omega
      subst hkn
      have HO := Hid.mk' ho
      have HT := Hid.mk' ht
      clear ho ht
      obtain ⟨wo, rfl⟩ : ∃ wo : World, wo = wr := ⟨_, rfl⟩
      go_wp2
      go_loopw [4] (fun o wx => ∃ j : Nat, 16 * k + j ≤ 256 ∧ Ow wx w.heap.size o (flB A k ++ List.replicate j 0) ∧ But (fun _ => False) w wx) (fun s _ => match s with | .slice _ m _ => 256 - m | _ => 0)
      case atStart => exact ⟨0, by omega, by simpa using HO.out, HT.out⟩
      case round =>
        obtain ⟨j, hj, ho, ht⟩ := hrel
        have hlen : (flB A k ++ List.replicate j 0).length = 16 * k + j := by rw [List.length_append, List.length_replicate, flB_len]
        obtain ⟨al, cl, rfl, -, -⟩ := ho.bs.gen
        rw [hlen] at ho ⊢
        obtain ⟨q, hq⟩ : ∃ q, q = 16 * k + j := ⟨_, rfl⟩
        rw [← hq]
        have HL := Hid.mk' hlen
        have HQ := Hid.mk' hq
        have HJ := Hid.mk' hj
        have HOW := Hid.mk' ho
        have HTW := Hid.mk' ht
        rw [← hq] at HOW
        by_cases hgo : q < 256
        · have HO2 := Hid.mk' (HOW.out.alloc (.cells #[.int .u8 0] 5))
          have HZ := Hid.mk' (one_zero wr).bs
          have HT2 := Hid.mk' (HTW.out.alloc (.cells #[.int .u8 0] 5))
          have HLL : Hid ((flB A k ++ List.replicate j 0).length + [0].length ≤ 140737488355328) := by show _ ≤ _; rw [hlen]; simp; omega
          clear hlen hq hj ho ht HO HT
          go_wp2_with (refine wpList_append_bsC rfl _ _ rfl w.heap.size (.slice al q cl) (.slice (some ⟨wr.heap.size, 0, none⟩) 1 1) _ [0] rfl HO2.out rfl HZ.out HLL.out HT2.out.size ?_; intro a3 m3 c3 w3 ho3 hm3 hg3; have HM3 := Hid.mk' hm3; clear hm3)
          have hbut3 : But (fun _ => False) w w3 := HT2.out.grown hg3 (fun x hx hlt => by have := (HO2.out.ge x hx).1; omega)
          rw [List.append_assoc, ← List.replicate_succ'] at ho3
          have hm : m3 = q + 1 := by rw [HM3.out, HL.out, HQ.out]; rfl
          refine ⟨⟨j + 1, by have := HQ.out; omega, ho3, hbut3⟩, ?_⟩
          show 256 - m3 < 256 - q
          omega
        · have hje : j = 256 - 16 * k := by omega
          rw [hje, ← show pkN A k = flB A k ++ List.replicate (256 - 16 * k) 0 from pkN_eq A k hn] at HOW
          clear hlen hq hj ho ht HO HT hje
          go_wp2
          go_ret2
          exact ⟨_, rfl, HOW.out.bs, HTW.out⟩
end Go.Proofs.Ytffiphdbjohilaa
