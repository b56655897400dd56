/- The reference's spill slots: New, Give. -/
import Derived.Test.YtehajgfjdmhdpaaSpRef
import Derived.Test.YtehajgfjdmhdpaaOwnOpn
namespace Go.Proofs.Ytehajgfjdmhdpaa
open Go.RowKit

theorem rspnew_no (w : World) (x : Int) (hx : ¬ (1 ≤ x ∧ x ≤ 256)) : Calls Try.prog 8 #[.int .i64 x] w fun e w' => e = .returned (.slice none 0 0) ∧ w' = w := by
  by_cases h1 : x < 1
  · go_enter Try.func8, Try.ntmps8
    go_wp2
    go_ret
    exact ⟨rfl, rfl⟩
  · have h2 : 256 < x := by omega
    clear hx
    go_enter Try.func8, Try.ntmps8
    go_wp2
    go_ret
    exact ⟨rfl, rfl⟩
/-- The row so far. -/
structure RnI (w wr : World) (k : Nat) (r : Value) : Prop where
  row : wr.ownsRow 0 40 5 r k ((List.replicate k none).flatMap rcl)
  new : ∀ b, r.ownBlock = some b → w.heap.size ≤ b
  grow : Grow w wr
set_option maxRecDepth 100000 in
set_option maxHeartbeats 1000000 in
theorem rspnew_any (w : World) (n : Nat) (h1 : 1 ≤ n) (h2 : n ≤ 256) : Calls Try.prog 8 #[.int .i64 (n : Int)] w fun e w' => ∃ gr cap, e = .returned (.slice (some ⟨gr, 0, none⟩) n cap) ∧ SrM w' gr cap n (List.replicate n none) ∧ Grow w w' ∧ w.heap.size ≤ gr := by
  have hn1 : ¬ ((n : Int) < 1) := by omega
  have hn2 : ¬ (256 < (n : Int)) := by omega
  have hnb : (n : Int) ≤ 256 := by omega
  have HR0 : Hid (RnI w w 0 (.slice none 0 0)) := Hid.mk' ⟨World.ownsRow_nil _ _ _ _, (fun k hk => by cases hk), But.refl _ _⟩
  go_enter Try.func8, Try.ntmps8
  go_wp2
  go_loopw [3, 4] (fun xv iv wr => ∃ (k : Nat) (r : Value), r = xv ∧ k ≤ n ∧ iv = .int .i64 k ∧ RnI w wr k r) (fun _ iv _ => n - (intOf iv).toNat)
  case atStart => exact ⟨0, _, rfl, Nat.zero_le _, rfl, HR0.out⟩
  case round =>
    rename_i xv
    obtain ⟨k, r, rfl, hk, rfl, hR⟩ := hrel
    have HR := Hid.mk' hR
    clear hR HR0
    by_cases hkn : k < n
    · have hkni : (k : Int) < (n : Int) := by omega
      have HAL : Hid (Grow wr (wr.alloc (.cells (rcl none).toArray 40))) := (But.refl _ wr).alloc _
      have HBL : Hid (Blk (wr.alloc (.cells (rcl none).toArray 40)) wr.heap.size 40 (rcl none)) := Blk.new rfl
      go_wp2_with (first
        | (refine wpList_runH rfl (exec_row1 (v := .agg (rcl none).toArray) (s := 5) Try.underlying27 infRs (by decide) (by decide) rfl rfl rfl) ?_)
        | (refine wpList_someH rfl (exec_append (v := r) (n := k) (s := 5) (xs := (List.replicate k none).flatMap rcl) (news := rcl none) Try.underlying27 infRs rfl (by decide) rfl rfl (ownsRow_grow HR.out.row HAL.out) rfl rfl (fun j u hj => HBL.out.cells0 j u hj) (rcl_one none) (by omega) (by decide)) ?_; intro v4 w4 hap)
        | fail)
      refine ⟨⟨k + 1, v4, rfl, by omega, by go_num, ?_, fun b hb => ?_, (HR.out.grow.trans HAL.out).then hap.but (fun b hb e => by have := HR.out.new b e; omega)⟩, by simp [intOf]; omega⟩
      · rw [List.replicate_succ', List.flatMap_append, List.flatMap_cons, List.flatMap_nil, List.append_nil]
        exact hap.own
      · rcases hap.at' with e | e
        · exact HR.out.new b (by rw [← e]; exact hb)
        · rw [e] at hb
          have := Option.some.inj hb
          have := HR.out.grow.size
          have := HAL.out.size
          omega
    · have hkni : ¬ (k : Int) < (n : Int) := by omega
      obtain rfl : k = n := by omega
      obtain ⟨g, cap, R, hr, -, hb⟩ := own_opn HR.out.row (by omega)
      subst hr
      have HB := Hid.mk' hb
      clear hb
      go_wp2
      go_ret
      exact ⟨_, _, rfl, ⟨⟨R, HB.out⟩, List.length_replicate, h2⟩, HR.out.grow, HR.out.new g rfl⟩
/-- What the reference's Give leaves. -/
structure SrTo (w : World) (gr cap n : Nat) (S : Sl) (w' : World) : Prop where
  m : SrM w' gr cap n S
  but : But (· = gr) w w'
section
variable {w w' : World} {gr cap n : Nat} {S : Sl} {R : Nat → Prop}
set_option maxRecDepth 100000 in
set_option maxHeartbeats 2000000 in
theorem rspgive_any (h : SrM w gr cap n S) (p : Int) (x : En) : Calls Try.prog 15 #[.slice (some ⟨gr, 0, none⟩) n cap, .int .i64 p, evalE x] w fun e w' => e = .returned (.int .i64 (rgivI S p)) ∧ SrTo w gr cap n (gaveS S p x) w' := by
  obtain ⟨w0, hw0⟩ : ∃ w0, w0 = w.alloc (.cells (ecells x).toArray 33) := ⟨_, rfl⟩
  obtain ⟨gx, hgx⟩ : ∃ gx, gx = w.heap.size := ⟨_, rfl⟩
  have k0 : Grow w w0 := by rw [hw0]; exact (But.refl _ w).alloc _
  have B0 : Hid (Blk w0 gx 33 (ecells x)) := by rw [hw0]; exact Blk.new hgx.symm
  have HR := Hid.mk' (h.but k0 (fun h => h))
  have HOF := Hid.mk' (rspof_any HR.out p)
  have K0 := Hid.mk' k0
  have HW0 := Hid.mk' hw0
  have HGX := Hid.mk' hgx
  have hnb : (n : Int) ≤ 256 := by have := h.hi; omega
  have HN : Hid (S.length = n) := h.len
  have hst : (∃ i, whoS S p = some i ∧ rofI S p = (i : Int) ∧ slotS S p = some i) ∨ (whoS S p = none ∧ rofI S p = -1 ∧ slotS S p = gapS S) := by
    unfold rofI slotS
    cases e : whoS S p with
    | none => exact .inr ⟨rfl, rfl, rfl⟩
    | some i => exact .inl ⟨i, rfl, rfl, rfl⟩
  have HST := Hid.mk' hst
  clear h k0 hw0 hgx hst
  show Calls _ _ #[_, _, .agg (ecells x).toArray] _ _
  go_enter Try.func15, Try.ntmps15
  go_upto_region 1 with fail
  rw [← HW0.out, ← HGX.out]
  go_wp2_with fail
  refine Calls.mono HOF.out ?_
  rintro e w1 ⟨rfl, hw⟩
  have h2 := hw.symm
  subst h2
  clear hw HOF
  obtain ⟨at0, hat⟩ : ∃ a, a = rofI S p := ⟨_, rfl⟩
  rw [← hat] at HST ⊢
  clear hat
  go_wp2
  go_loopw [7, 8] (fun av iv wr => ∃ (i : Nat) (at' : Int), i ≤ n ∧ iv = .int .i64 i ∧ av = .int .i64 at' ∧ wr = w0 ∧ ((at' = -1 ∧ slotS S p = gapS S ∧ ∀ j, j < i → ∃ q, S[j]? = some (some q)) ∨ (∃ g : Nat, at' = (g : Int) ∧ slotS S p = some g))) (fun _ iv _ => n - (intOf iv).toNat)
  case atStart =>
    refine ⟨0, at0, Nat.zero_le _, rfl, rfl, rfl, ?_⟩
    rcases HST.out with ⟨i, -, h2, h3⟩ | ⟨-, h2, h3⟩
    · exact .inr ⟨i, h2, h3⟩
    · exact .inl ⟨h2, h3, fun j hj => absurd hj (by omega)⟩
  case round =>
    clear HST
    obtain ⟨i, at', hin, rfl, rfl, hwr, hc⟩ := hrel
    have h2 := hwr.symm
    subst h2
    clear hwr
    have HC := Hid.mk' hc
    by_cases hnone : at' < 0
    · have hc2 : at' = -1 ∧ slotS S p = gapS S ∧ ∀ j, j < i → ∃ q, S[j]? = some (some q) := by
        rcases hc with h | ⟨g, h1, -⟩
        · exact h
        · omega
      have HC2 := Hid.mk' hc2
      clear hc HC hc2
      by_cases hlt : i < n
      · have hlti : (i : Int) < (n : Int) := by omega
        obtain ⟨o, ho⟩ : ∃ o, S[i]? = some o := ⟨_, List.getElem?_eq_getElem (by have := HN.out; omega)⟩
        have d0 : w0.cell? ⟨gr, i * 5, none⟩ = some (.bool o.isNone) := HR.out.cell ho (rcl_at0 o)
        have HO := Hid.mk' ho
        clear ho
        rcases o with _ | q
        · have d0' : w0.cell? ⟨gr, i * 5, none⟩ = some (.bool true) := d0
          have HFD : Hid (slotS S p = some i) := by
            show slotS S p = _
            rw [HC2.out.2.1]
            exact gapS_at HO.out HC2.out.2.2
          clear d0 HC2
          go_wp2
          exact ⟨⟨i + 1, (i : Int), by omega, by go_num, rfl, trivial, .inr ⟨i, rfl, HFD.out⟩⟩, by simp [intOf]; omega⟩
        · have d0' : w0.cell? ⟨gr, i * 5, none⟩ = some (.bool false) := d0
          have HST2 : Hid (∀ j, j < i + 1 → ∃ q, S[j]? = some (some q)) := fun j hj => by
            rcases Nat.lt_succ_iff_lt_or_eq.1 hj with h1 | h1
            · exact HC2.out.2.2 j h1
            · rw [h1]; exact ⟨q, HO.out⟩
          have HC3 := Hid.mk' (And.intro HC2.out.1 HC2.out.2.1)
          clear d0 HC2
          go_wp2
          exact ⟨⟨i + 1, at', by omega, by go_num, rfl, trivial, .inl ⟨HC3.out.1, HC3.out.2, HST2.out⟩⟩, by simp [intOf]; omega⟩
      · have hlti : ¬ (i : Int) < (n : Int) := by omega
        have hge : ¬ (0 ≤ at') := by omega
        have HFD : Hid (slotS S p = none) := by
          show slotS S p = _
          rw [HC2.out.2.1]
          exact gapS_no (fun j hj => HC2.out.2.2 j (by have := HN.out; omega))
        have HE : Hid (at' = rgivI S p ∧ gaveS S p x = S) := by
          show _ ∧ _
          unfold rgivI gaveS
          rw [HFD.out]
          exact ⟨HC2.out.1, rfl⟩
        clear HC2
        go_wp2
        go_ret
        rw [HE.out.2]
        exact ⟨by rw [HE.out.1]; rfl, HR.out, K0.out.mono (fun _ _ h => h.elim)⟩
    · obtain ⟨g, hg1, hg2⟩ : ∃ g : Nat, at' = (g : Int) ∧ slotS S p = some g := by
        rcases hc with ⟨h, -⟩ | h
        · omega
        · exact h
      subst hg1
      have hgl : g < n := by have := (slotS_some hg2).1; have := HN.out; omega
      have hgi : (g : Int) < (n : Int) := by omega
      have hg0 : (0 : Int) ≤ (g : Int) := by omega
      obtain ⟨w5, hs5, hm5, hb5⟩ := HR.out.store hgl (some (p, x))
      have HS5 := Hid.mk' hs5
      have HBU : Hid (∀ w : World, (Instr.build 40 #[(1, .int .i64 p), (2, .agg (ecells x).toArray)]).run Try.prog w = .ok (.agg (rcl (some (p, x))).toArray) w) := fun w => by kernel_rfl
      have HE : Hid (rgivI S p = (g : Int) ∧ gaveS S p x = S.set g (some (p, x))) := by
        show _ ∧ _
        unfold rgivI gaveS
        rw [hg2]
        exact ⟨rfl, rfl⟩
      have HF : Hid (SrTo w gr cap n (gaveS S p x) w5) := by
        show SrTo _ _ _ _ _ _
        rw [HE.out.2]
        exact ⟨hm5, (K0.out.mono (fun _ _ h => h.elim)).trans hb5⟩
      clear hc HC hg2 hs5 hm5 hb5
      obtain hli | hli : (i : Int) < (n : Int) ∨ ¬ ((i : Int) < (n : Int)) := by omega
      all_goals
        go_wp2_with (first
          | (refine wpList_runH rfl (exec_ldE (cs := x) B0.out.cells0 rfl rfl) ?_)
          | (refine wpList_runH rfl (exec_build 40 [(1, .tmp 32), (2, .tmp 33)] rfl [(1, .int .i64 p), (2, .agg (ecells x).toArray)] rfl (.agg (rcl (some (p, x))).toArray) (HBU.out _)) ?_)
          | (refine wpList_skipH rfl (exec_stF (v := .agg (rcl (some (p, x))).toArray) rfl rfl rfl HS5.out) ?_)
          | fail)
        go_ret
        exact ⟨by rw [HE.out.1]; rfl, HF.out⟩
end
end Go.Proofs.Ytehajgfjdmhdpaa
