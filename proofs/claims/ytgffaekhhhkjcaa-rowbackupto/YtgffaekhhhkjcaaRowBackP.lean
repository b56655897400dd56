/- A number that was put is read again, and what stands ahead and behind too: where what comes in is of bulk at most 1048576 (beyond it: append's own limit). -/
import Derived.Test.YtgffaekhhhkjcaaRowAwake
import Derived.Test.YtgffaekhhhkjcaaBulk
import Derived.ProofKit
import Derived.OpenShut
import Derived.ChangeOld
import Derived.JoinedCond
import Derived.Deep.CondSized
namespace Go.Proofs.Ytgffaekhhhkjcaa
open Go.ChangeShapes Go.WideShapes Go.ChangeAt Go.RowKit

theorem wf_u64b {a : Int} (h : (Lit.int .u64 a).wf = true) : ∃ n : Nat, a = n ∧ n < 18446744073709551616 := by
  have h8 : IntKind.u64.min ≤ a ∧ a ≤ IntKind.u64.max := by simpa [Lit.wf, go_sem] using h
  have e1 : IntKind.u64.min = 0 := rfl
  have e2 : IntKind.u64.max = 18446744073709551615 := rfl
  exact ⟨a.toNat, by omega, by omega⟩

/-- append(own, bytes...): bytes behind own bytes. -/
theorem wpList_append_bs {w : World} {ops : Array Oper} {rest : List Oper} {o : Oper} {a : Act} {Q : Exit → Act → World → Prop} (hgd : o.guard = none) (s x : Operand)
    (ho : o.op = .call { callee := .builtin .append, args := #[s, x], argTypes := #[22, 22] }) (base : Nat) (v u : Value) (zs ys : List Nat)
    (hs : a.eval s = v) (hown : Ow w base v zs) (hx : a.eval x = u) (hu : Bs w u ys) (hl : zs.length + ys.length ≤ 140737488355328) (hbase : base ≤ w.heap.size)
    (h : ∀ ao m c w', Ow w' base (.slice ao m c) (zs ++ ys) → m = zs.length + ys.length → w.grownBy w' v.ownBlock → wpList Try.prog ops Q rest (a.put o.dst (.slice ao m c)) w') : wpList Try.prog ops Q (o :: rest) a w := by
  obtain ⟨i0, hi, hz0, hz1, hz2⟩ := info_parts u8info
  obtain ⟨ao, cap, rfl, hnone, hc⟩ := hu.gen
  cases ao with
  | none =>
    obtain ⟨h0, rfl⟩ := hnone rfl
    have := List.eq_nil_of_length_eq_zero h0
    subst this
    refine wpList_plain hgd fun K hK' => ?_
    have hrun := run_append_owned_none (P := Try.prog) w base 22 o.type 5 i0 1 Try.underlying22 hi v zs.length (u8s zs) hown.own
    obtain ⟨ao', m', c', rfl⟩ := hown.slice
    have hm : m' = zs.length := by
      obtain ⟨_, _, e, _⟩ := hown.bs.gen
      simp only [Value.slice.injEq] at e
      exact e.2.1
    unfold Oper.wp
    simp only [List.length_nil] at hx
    simp [execOp, ho, resolve, invoke, builtin, hs, hx, hrun, Result.andThen]
    exact hK' _ _ (h ao' m' c' w (by rw [List.append_nil]; exact hown) (by simpa using hm) (World.grownBy.refl _ _))
  | some ad =>
    refine wpList_append_own w hgd s x 22 ho base 5 i0 (.int .u8 0) 1 1 Try.underlying22 hi hz0 hz1 hz2 rfl (by decide) v zs.length (u8s zs) hs hown.own ad ys.length cap (u8s ys) hx (by simp [u8s]) (hc ad rfl) (u8s_one ys) (by unfold maxLen; omega) (by omega) hbase ?_
    intro v' w' h1 h2 _
    have ho' : Ow w' base v' (zs ++ ys) := by
      refine ⟨?_, by rw [List.length_append]; omega, ?_⟩
      · intro z hz
        rcases List.mem_append.1 hz with hz | hz
        · exact hown.lt z hz
        · exact hu.1 z hz
      · rw [List.length_append, u8s_append]; exact h1
    obtain ⟨ao', m', c', rfl⟩ := ho'.slice
    refine h ao' m' c' w' ho' ?_ h2
    obtain ⟨_, _, e, _⟩ := ho'.bs.gen
    simp only [Value.slice.injEq] at e
    rw [e.2.1, List.length_append]

theorem rowBack_bad (v : Value) (n s : Int) (u : Value) (w : World)
    (HP : Hid (Calls Try.prog 10 #[v, .int .u64 n, .int .i64 s] w fun e w' => e = .returned (.tuple #[.slice none 0 0, .int .i64 1]) ∧ w' = w)) :
    Calls Try.prog 4 #[v, .int .u64 n, .int .i64 s, u] w fun e w' => e = .returned (.bool true) ∧ Below w.heap.size w w' := by
  go_enter Try.func4, Try.ntmps4
  go_wp2_with fail
  refine Calls.mono HP.out ?_
  rintro e w1 ⟨rfl, hw⟩
  have hw' := hw.symm
  subst hw'
  go_wp2_with fail
  refine Calls.mono (awake_any _) ?_
  rintro e w2 ⟨rfl, hb2⟩
  go_wp2
  go_ret
  exact ⟨rfl, hb2⟩

theorem Hid.mk'' {p : Prop} (h : p) : Hid p := h
theorem cut_mid (xs m ys : List Nat) : (xs ++ m ++ ys).take xs.length = xs ∧ (xs ++ m ++ ys).drop xs.length = m ++ ys := by
  rw [List.append_assoc]
  exact ⟨List.take_left' rfl, List.drop_left' rfl⟩

set_option maxRecDepth 20000 in
set_option maxHeartbeats 1000000 in
theorem rowBack_good (v : Value) (xs : List Nat) (n s : Nat) (u : Value) (ys Z : List Nat) (w : World) (hv : Bs w v xs) (hu : Bs w u ys) (hx : xs.length ≤ 1048576) (hy : ys.length ≤ 1048576) (h1 : 1 ≤ s) (h8 : s ≤ 8)
    (hZl : Z.length = s) (hZv : val Z = n) (HP : Hid (Calls Try.prog 10 #[v, .int .u64 n, .int .i64 s] w fun e w' => ∃ v', e = .returned (.tuple #[v', .int .i64 0]) ∧ Ow w' w.heap.size v' (xs ++ Z) ∧ Below w.heap.size w w')) :
    Calls Try.prog 4 #[v, .int .u64 n, .int .i64 s, u] w fun e w' => e = .returned (.bool true) ∧ Below w.heap.size w w' := by
  have HV : Hid (Bs w v xs) := hv
  have HU : Hid (Bs w u ys) := hu
  obtain ⟨ao, cap, rfl, _, _⟩ := hv.gen
  obtain ⟨uo, ucap, rfl, _, _⟩ := hu.gen
  have HZl := Hid.mk'' hZl
  have HZv := Hid.mk'' hZv
  clear hv hu hZl hZv
  obtain ⟨L, hL⟩ : ∃ L, xs.length = L := ⟨_, rfl⟩
  obtain ⟨M, hM⟩ : ∃ M, ys.length = M := ⟨_, rfl⟩
  have HL : Hid (xs.length = L) := hL
  have HM : Hid (ys.length = M) := hM
  rw [hL] at HV hx HP ⊢
  rw [hM] at HU hy ⊢
  clear hL hM
  go_enter Try.func4, Try.ntmps4
  go_wp2_with fail
  refine Calls.mono HP.out ?_
  rintro e w1 ⟨v1, rfl, hown1, hb1⟩
  have hs1 := hb1.size
  have HU1 : Hid (Bs w1 (.slice uo M ucap) ys) := HU.out.below hb1
  have hl1 : (xs ++ Z).length + ys.length ≤ 140737488355328 := by rw [List.length_append, HL.out, HZl.out, HM.out]; omega
  have HO1 : Hid (Ow w1 w.heap.size v1 (xs ++ Z)) := hown1
  obtain ⟨ao1, m1, cap1, rfl⟩ := hown1.slice
  clear hown1
  go_wp2_with (at_builtin; refine wpList_append_bs rfl _ _ rfl w.heap.size _ _ (xs ++ Z) ys rfl HO1.out rfl HU1.out hl1 hs1 ?_; intro ao2 m2 cap2 w2 hown2 hm2' hgrow2; have hm2 := Hid.mk'' hm2'; clear hm2')
  have HO2 : Hid (Bs w2 (.slice ao2 m2 cap2) (xs ++ Z ++ ys)) := hown2.bs
  have HB2 : Hid (Below w.heap.size w w2) := hb1.grown hgrow2 hs1 (fun k e => (HO1.out.ge k e).1)
  have hs2 := HB2.out.size
  clear hgrow2 hb1 HO1 HU1 hown2 hm2
  have hl2 : (xs ++ Z ++ ys).length ≤ 140737488355328 := by rw [List.length_append]; exact hl1
  refine Calls.mono (new_any HO2.out hl2) ?_
  rintro e w3 ⟨r, og, rfl, hr, hog, hrd3, hb3⟩
  have hrw : w.heap.size ≤ r := by omega
  have HB3 : Hid (Below w.heap.size w w3) := HB2.out.trans (hb3.mono hs2)
  have hl3 : L ≤ (xs ++ Z ++ ys).length := by rw [List.length_append, List.length_append, HL.out]; omega
  clear HO2 HB2 hb3 hog
  go_wp2_with fail
  refine Calls.mono (take_ok hrd3 L hl3) ?_
  rintro e w4 ⟨v4, rfl, hown4, hrd4, hbut4⟩
  have hcut := cut_mid xs Z ys
  rw [HL.out] at hcut
  rw [hcut.1] at hown4
  rw [hcut.2] at hrd4
  have hr4 := hrd4.lt
  obtain ⟨ao4, m4, cap4, rfl⟩ := hown4.slice
  have HO4 : Hid (Ow w4 w3.heap.size (.slice ao4 m4 cap4) xs) := hown4
  have HB4 : Hid (Below w.heap.size w w4) := HB3.out.trans (hbut4.below HB3.out.size (fun k hk e => by omega))
  have hrr3 := hrd3.lt
  clear hcut hown4 hrd3 HB3
  go_wp2_with fail
  refine Calls.mono (num_ok hrd4 s h1 h8 (by rw [List.length_append, HZl.out]; omega)) ?_
  rintro e w5 ⟨rfl, hrd5, hbut5⟩
  have e5 : (Z ++ ys).take s = Z := List.take_left' HZl.out
  have e6 : (Z ++ ys).drop s = ys := List.drop_left' HZl.out
  rw [e5, HZv.out]
  rw [e6] at hrd5
  have HO5 : Hid (Bs w5 (.slice ao4 m4 cap4) xs) := HO4.out.bs.but hbut5 (fun j e _ h => by have := (HO4.out.ge j e).1; omega)
  have HB5 : Hid (Below w.heap.size w w5) := HB4.out.trans (hbut5.below HB4.out.size (fun k hk e => by omega))
  have hge4 : ∀ j, (Value.slice ao4 m4 cap4).ownBlock = some j → j ≠ r := fun j e => by have := (HO4.out.ge j e).1; omega
  clear e5 e6 HO4 HB4 hbut5 hrd4
  go_wp2_with fail
  refine Calls.mono (take_ok hrd5 M (by rw [HM.out]; exact Nat.le_refl _)) ?_
  rintro e w6 ⟨v6, rfl, hown6, hrd6, hbut6⟩
  rw [List.take_of_length_le (by rw [HM.out]; exact Nat.le_refl _)] at hown6
  rw [List.drop_of_length_le (by rw [HM.out]; exact Nat.le_refl _)] at hrd6
  obtain ⟨ao6, m6, cap6, rfl⟩ := hown6.slice
  have HB6 : Hid (Below w.heap.size w w6) := HB5.out.trans (hbut6.below HB5.out.size (fun k hk e => by omega))
  have HS1 : Hid (Calls Try.prog 12 #[.slice ao4 m4 cap4, .slice ao L cap] w6 fun e w' => e = .returned (.bool true) ∧ ∃ d, w' = w6.drewN d) := by
    have := same_any (HO5.out.but hbut6 (fun j e _ => hge4 j e)) (HV.out.below HB6.out)
    rw [decide_eq_true rfl] at this
    exact this
  have HS2 : Hid (∀ d, Calls Try.prog 12 #[.slice ao6 m6 cap6, .slice uo M ucap] (w6.drewN d) fun e w' => e = .returned (.bool true) ∧ ∃ d', w' = w6.drewN d') := fun d => by
    have := same_any (hown6.bs.drewN d) ((HU.out.below HB6.out).drewN d)
    rw [decide_eq_true rfl] at this
    exact this.mono fun e w' h => ⟨h.1, let ⟨d', e'⟩ := h.2; ⟨_, e'.trans (World.drewN_drewN _ _ _)⟩⟩
  have HE : Hid (∀ d, Calls Try.prog 18 #[.pointer (some ⟨r, 0, none⟩)] (w6.drewN d) fun e w' => e = .returned (.int .i64 0) ∧ w' = w6.drewN d) := fun d => end_any (hrd6.drewN d)
  have HLf : Hid (∀ d, Calls Try.prog 19 #[.pointer (some ⟨r, 0, none⟩)] (w6.drewN d) fun e w' => e = .returned (.int .i64 0) ∧ w' = w6.drewN d) := fun d => left_any (hrd6.drewN d)
  clear hown6 hrd6 hbut6 HO5 HB5 hge4 hrd5
  go_wp2_with fail
  refine Calls.mono HS1.out ?_
  rintro e w7 ⟨rfl, d, rfl⟩
  go_wp2_with fail
  refine Calls.mono (HS2.out d) ?_
  rintro e w7 ⟨rfl, d2, rfl⟩
  go_wp2_with fail
  refine Calls.mono (HE.out d2) ?_
  rintro e w7 ⟨rfl, rfl⟩
  go_wp2_with fail
  refine Calls.mono (HLf.out d2) ?_
  rintro e w7 ⟨rfl, rfl⟩
  go_wp2_with fail
  refine Calls.mono (awake_any _) ?_
  rintro e w8 ⟨rfl, hb8⟩
  have hB : Below w.heap.size w (w6.drewN d2) := below_drewN HB6.out d2
  go_wp2
  go_ret
  exact ⟨rfl, hB.trans (hb8.mono hB.size)⟩

theorem rowBack_walk (v : Value) (xs : List Nat) (n s : Int) (u : Value) (ys : List Nat) (w : World) (hv : Bs w v xs ∧ xs.length ≤ 1048576) (hn : (Lit.int .u64 n).wf = true) (_hs : (Lit.int .i64 s).wf = true) (hu : Bs w u ys ∧ ys.length ≤ 1048576) :
    Calls Try.prog 4 #[v, .int .u64 n, .int .i64 s, u] w fun e w' => e = .returned (.bool true) ∧ Below w.heap.size w w' := by
  by_cases h : 1 ≤ s ∧ s ≤ 8
  · obtain ⟨n, rfl, hn64⟩ := wf_u64b hn
    obtain ⟨s, rfl⟩ : ∃ k : Nat, s = k := ⟨s.toNat, by omega⟩
    by_cases hr : n / 256 ^ s = 0
    · have hlt : n < 256 ^ s := (Nat.div_eq_zero_iff_lt (Nat.pow_pos (by decide))).1 hr
      exact rowBack_good v xs n s u ys (be n s) w hv.1 hu.1 hv.2 hu.2 (by omega) (by omega) (be_len n s) (by rw [val_be, Nat.mod_eq_of_lt hlt]) (put_ok hv.1 (by have := hv.2; omega) n s (by omega) (by omega) hr)
    · exact rowBack_bad v n s u w (put_room w n s (by omega) (by omega) hr)
  · exact rowBack_bad v n s u w (put_size w n s h)

set_option maxRecDepth 100000 in
theorem rowBack_lifted (os : Os) (started : os.Started) (H : Type) (enc : TypeId × Value → H) (F : Stop.Interp) :
    ReturnsInHanded {} Try.checked os 4 .any ((Rows.OpenSpec.upto Rows.rowBackSpec).pre6 enc Try.prog Try.f4 Rows.rowBackUptoRow.domain false) (((Rows.OpenSpec.upto Rows.rowBackSpec).at F).post enc Try.prog Try.f4 false true false false) := by
  refine returnsInHanded_of_cond_sized (C := Try.checked) (s := Rows.OpenSpec.upto Rows.rowBackSpec) (k := Rows.uptoSmall) rfl (by kernel_rfl) started (by kernel_rfl) Try.func4
    (OpenSpec.witness (enc := enc) (C := Try.checked) (s := Rows.OpenSpec.upto Rows.rowBackSpec) (k := Rows.uptoSmall) rfl false ⟨#[], #[.slice none 0 0, .int .u64 0, .int .i64 0, .slice none 0 0], []⟩ 8 (by kernel_rfl) (by kernel_rfl) (by kernel_rfl)
      (x := ([.nil, .lit (.int .u64 0), .lit (.int .i64 0), .nil], [], [])) (by kernel_rfl) rfl (by kernel_rfl)) ?_
  intro W base args ds gs before hval0 hW hcnd hk0 hsz0 _
  have hsz : (DataW.weightsEach Try.prog (Try.f4.params.toList ++ (Rows.OpenSpec.upto Rows.rowBackSpec).bare.plain.varTypes Try.prog) (ds ++ gs)).all (· ≤ reachBytes) = true := hsz0
  have hk : Rows.uptoBulkAll (ds ++ gs) ≤ 1048576 := of_decide_eq_true hk0
  clear hsz0 hk0
  have hval : ∀ (j : Nat) t v, Try.f4.params[j]? = some t → args[j]? = some v → Value.okWide Try.prog W .any base t v := hval0
  have hW' := hW
  obtain ⟨p, q, hA0, hV, rfl, hfz, hnd⟩ := hW
  have hA : DataW.TrodAll enc Try.prog W 0 (fun _ => true) true Try.f4.params.toList args.toList ds p := hA0
  rw [Try.params4] at hA hval hsz
  obtain ⟨v0, vs0, d0, ds0, p0, q0, hargs, rfl, rfl, h0, r0⟩ := trodAll_cons hA
  obtain ⟨v1, vs1, d1, ds1, p1, q1, rfl, rfl, rfl, h1, r1⟩ := trodAll_cons r0
  obtain ⟨v2, vs2, d2, ds2, p2, q2, rfl, rfl, rfl, h2, r2⟩ := trodAll_cons r1
  obtain ⟨v3, vs3, d3, ds3, p3, q3, rfl, rfl, rfl, h3, r3⟩ := trodAll_cons r2
  obtain ⟨rfl, rfl, rfl⟩ := trodAll_nil r3
  obtain rfl : args = #[v0, v1, v2, v3] := by cases args; simp_all
  obtain ⟨rfl, rfl⟩ := trodVars_none hV
  have lt0 : ∀ x ∈ p0, x.block < W.heap.size := by obtain ⟨m, hm⟩ := h0; exact DataW.trod_lt m _ _ _ hm
  obtain ⟨z0, u0, w0⟩ := view_bytes_upto Try.underlying22 Try.underlying5 (by kernel_rfl) (by kernel_rfl) (hval 0 22 v0 rfl rfl) h0 lt0 hsz (j := 0) rfl rfl
  have b0 : z0.length ≤ 1048576 := Nat.le_trans w0 (Nat.le_trans (bulk_part (List.mem_append_left _ (List.mem_of_getElem? (i := 0) rfl))) hk)
  obtain ⟨a1, rfl, rfl, rfl, w1⟩ := open_int Try.underlying23 (hval 1 23 v1 rfl rfl) h1
  obtain ⟨a2, rfl, rfl, rfl, w2⟩ := open_int Try.underlying3 (hval 2 3 v2 rfl rfl) h2
  have lt3 : ∀ x ∈ p3, x.block < W.heap.size := by obtain ⟨m, hm⟩ := h3; exact DataW.trod_lt m _ _ _ hm
  obtain ⟨z3, u3, w3⟩ := view_bytes_upto Try.underlying22 Try.underlying5 (by kernel_rfl) (by kernel_rfl) (hval 3 22 v3 rfl rfl) h3 lt3 hsz (j := 3) rfl rfl
  have b3 : z3.length ≤ 1048576 := Nat.le_trans w3 (Nat.le_trans (bulk_part (List.mem_append_left _ (List.mem_of_getElem? (i := 3) rfl))) hk)
  clear hA0 hval0
  refine (rowBack_walk v0 z0 a1 a2 v3 z3 W ⟨u0, b0⟩ w1 w2 ⟨u3, b3⟩).mono fun e W' ⟨he, bel⟩ => ?_
  subst he
  exact ⟨_, rfl, _, _, _, [], _, [], hW', trodAll_mk1 (shut_bool Try.underlying4 _), (trodAll_cons_mk (Below.trod (by kernel_rfl) (by kernel_rfl) (of_decide_eq_true (by kernel_rfl)) h0 bel lt0) (trodAll_cons_mk (shut_int Try.underlying23 w1) (trodAll_cons_mk (shut_int Try.underlying3 w2) (trodAll_cons_mk (Below.trod (by kernel_rfl) (by kernel_rfl) (of_decide_eq_true (by kernel_rfl)) h3 bel lt3) trodAll_mk0)))), rfl, bel.frame _, fun h => by cases h⟩

theorem rowBackUpto_holds : Rows.RowBackUptoSaid :=
  OpenClaim.holds_of_cond 4 Try.f4 rfl rfl rfl rfl rfl rfl rfl ⟨rfl, rfl, rfl, rfl, rfl⟩ rfl rfl rfl rfl rfl (by kernel_rfl) Try.func4 (by kernel_rfl)
    (of_decide_eq_true (by kernel_rfl)) (by unfold Func.isWrapper; first | (rw [if_pos (by decide +kernel)]; kernel_rfl) | (rw [if_neg (by decide +kernel)]; exact ⟨rfl, rfl⟩))
    (fun os started H enc _ F => rowBack_lifted os started H enc F)
#print axioms rowBackUpto_holds
end Go.Proofs.Ytgffaekhhhkjcaa
