/- A number of two parts is the first part's, moved up by the second one's bytes, and the second one's. No condition. -/
import Derived.Test.YtgffaekhhhkjcaaRowAwake
import Derived.Deep.RegionWith
import Derived.ProofKit
import Derived.OpenShut
import Derived.ChangeOld
namespace Go.Proofs.Ytgffaekhhhkjcaa
open Go.ChangeShapes Go.WideShapes Go.ChangeAt Go.RowKit

theorem wf_u64 {a : Int} (h : (Lit.int .u64 a).wf = true) : ∃ n : Nat, a = n ∧ n < 18446744073709551616 := by
  have h8 : IntKind.u64.min ≤ a ∧ a ≤ IntKind.u64.max := by simpa [Lit.wf, go_sem] using h
  have e1 : IntKind.u64.min = 0 := rfl
  have e2 : IntKind.u64.max = 18446744073709551615 := rfl
  exact ⟨a.toNat, by omega, by omega⟩
theorem Bs.drew {w : World} {v : Value} {zs : List Nat} (h : Bs w v zs) : Bs w.drew v zs := h.below (Below.refl _ _).drew
theorem Rd.drew {w : World} {r : Nat} {og : Option Nat} {zs : List Nat} {f : Int} (h : Rd w r og zs f) : Rd w.drew r og zs f := h.below (Below.refl _ _).drew

/-- Put, whatever the number: in bytes, or refused. -/
theorem put_any {v : Value} {xs : List Nat} {w : World} (hv : Bs w v xs) (hl : xs.length ≤ 140737488355328) (n s : Nat) (h1 : 1 ≤ s) (h8 : s ≤ 8) :
    Calls Try.prog 10 #[v, .int .u64 n, .int .i64 s] w fun e w' => ∃ ao m cap, ∃ f : Int, e = .returned (.tuple #[.slice ao m cap, .int .i64 f]) ∧ Below w.heap.size w w' ∧
      ((n / 256 ^ s ≠ 0 ∧ ao = none ∧ m = 0 ∧ cap = 0 ∧ f = 1) ∨ (n / 256 ^ s = 0 ∧ m = xs.length + s ∧ f = 0 ∧ Ow w' w.heap.size (.slice ao m cap) (xs ++ be n s))) := by
  by_cases hn : n / 256 ^ s = 0
  · refine (put_ok hv hl n s h1 h8 hn).mono ?_
    rintro e w' ⟨v', rfl, hown, hb⟩
    obtain ⟨ao, cap, rfl, _⟩ := hown.bs.gen
    refine ⟨_, _, _, _, rfl, hb, .inr ⟨hn, by rw [List.length_append, be_len], rfl, hown⟩⟩
  · refine (put_room w n s h1 h8 hn).mono ?_
    rintro e w' ⟨rfl, rfl⟩
    exact ⟨_, _, _, _, rfl, Below.refl _ _, .inl ⟨hn, rfl, rfl, rfl, rfl⟩⟩

theorem joined (a b s : Nat) (ha : a / 256 ^ s = 0) (hb : b / 256 ^ s = 0) : val (([] ++ be a s ++ be b s).take (2 * s)) = a * 256 ^ s + b := by
  have hp : 0 < 256 ^ s := Nat.pow_pos (by decide)
  have ha' : a < 256 ^ s := (Nat.div_eq_zero_iff_lt hp).1 ha
  have hb' : b < 256 ^ s := (Nat.div_eq_zero_iff_lt hp).1 hb
  rw [List.nil_append, List.take_of_length_le (by rw [List.length_append, be_len, be_len]; omega), val_append, be_len, val_be, val_be, Nat.mod_eq_of_lt ha', Nat.mod_eq_of_lt hb']

theorem moved (a b s : Nat) (h4 : s ≤ 4) (ha : a / 256 ^ s = 0) (hb : b / 256 ^ s = 0) : bits .or .u64 (IntKind.u64.wrap ((a : Int) * 2 ^ (8 * (s : Int)).toNat)) (b : Int) = ((a * 256 ^ s + b : Nat) : Int) := by
  have hp : 0 < 256 ^ s := Nat.pow_pos (by decide)
  have ha' : a < 256 ^ s := (Nat.div_eq_zero_iff_lt hp).1 ha
  have hb' : b < 256 ^ s := (Nat.div_eq_zero_iff_lt hp).1 hb
  have h2 : 256 ^ s ≤ 256 ^ 4 := Nat.pow_le_pow_right (by decide) h4
  have e0 : (256 : Nat) ^ s = 2 ^ (8 * s) := by rw [Nat.pow_mul]
  have e1 : (8 * (s : Int)).toNat = 8 * s := by omega
  have hm : a * 256 ^ s < 18446744073709551616 := by
    have h3 : a * 256 ^ s ≤ 256 ^ 4 * 256 ^ 4 - 1 := by
      have : a + 1 ≤ 256 ^ 4 := by omega
      have h5 : (a + 1) * 256 ^ s ≤ 256 ^ 4 * 256 ^ 4 := Nat.mul_le_mul this h2
      rw [Nat.add_mul] at h5
      omega
    omega
  have e2 : (a : Int) * 2 ^ (8 * s) = ((a * 256 ^ s : Nat) : Int) := by rw [e0]; simp
  rw [e1, e2]
  have e3 : IntKind.u64.wrap ((a * 256 ^ s : Nat) : Int) = ((a * 256 ^ s : Nat) : Int) := by rw [IntKind.wrap_u64]; omega
  rw [e3, u64_or_nat _ _ hm (by omega), e0, ← Nat.shiftLeft_eq, ← Nat.shiftLeft_add_eq_or_of_lt (by rw [← e0]; exact hb')]

theorem rowJoins_out (a b : Int) (size : Int) (w : World) (hs : size < 1 ∨ 4 < size) :
    Calls Try.prog 7 #[.int .u64 a, .int .u64 b, .int .i64 size] w fun e w' => e = .returned (.bool true) ∧ Below w.heap.size w w' := by
  rcases hs with hs | hs
  · go_enter Try.func7, Try.ntmps7
    go_wp2_with (go_at_call 14; refine (awake_any _).mono ?_; rintro e w' ⟨rfl, hb⟩)
    go_ret
    exact ⟨rfl, hb⟩
  · have hs' : ¬ size < 1 := by omega
    go_enter Try.func7, Try.ntmps7
    go_wp2_with (go_at_call 14; refine (awake_any _).mono ?_; rintro e w' ⟨rfl, hb⟩)
    go_ret
    exact ⟨rfl, hb⟩

set_option maxHeartbeats 400000 in
theorem rowJoins_in (a b s : Nat) (w : World) (h1 : 1 ≤ s) (h4 : s ≤ 4) :
    Calls Try.prog 7 #[.int .u64 a, .int .u64 b, .int .i64 s] w fun e w' => e = .returned (.bool true) ∧ Below w.heap.size w w' := by
  have k1 : ¬ (s : Int) < 1 := by omega
  have k2 : ¬ 4 < (s : Int) := by omega
  go_enter Try.func7, Try.ntmps7
  go_wp2_with fail
  refine Calls.mono (put_any (Bs.nil w) (by simp) a s h1 (by omega)) ?_
  rintro e w1 ⟨ao, m, cap, f, rfl, hb1, hx⟩
  rcases hx with ⟨_, rfl, rfl, rfl, rfl⟩ | ⟨hra, hm, rfl, hown⟩
  · go_wp2_with fail
    refine Calls.mono (put_any (Bs.nil w1) (by simp) b s h1 (by omega)) ?_
    rintro e w2 ⟨ao2, m2, cap2, f2, rfl, hb2, hy⟩
    have hbel : Below w.heap.size w w2 := hb1.trans (hb2.mono hb1.size)
    rcases hy with ⟨_, rfl, rfl, rfl, rfl⟩ | ⟨_, hm2, rfl, _⟩
    · go_wp2
      go_ret
      exact ⟨rfl, hbel⟩
    · have hm3 : m2 = s := by simpa using hm2
      subst hm3
      clear hm2
      have k3 : ¬ (m2 : Int) = 0 := by omega
      go_wp2
      go_ret
      exact ⟨rfl, hbel⟩
  · have hX : Bs w1 (.slice ao m cap) ([] ++ be a s) := hown.bs
    have hXl : ([] ++ be a s).length = s := by rw [List.nil_append, be_len]
    have HJ0 : Hid (b / 256 ^ s = 0 → val (([] ++ be a s ++ be b s).take (2 * s)) = a * 256 ^ s + b) := joined a b s hra
    have hra' := hra
    clear hown hra hm
    generalize [] ++ be a s = X at *
    go_wp2_with fail
    refine Calls.mono (put_any hX (by omega) b s h1 (by omega)) ?_
    rintro e w2 ⟨ao2, m2, cap2, f2, rfl, hb2, hy⟩
    have hbel : Below w.heap.size w w2 := hb1.trans (hb2.mono hb1.size)
    rcases hy with ⟨_, rfl, rfl, rfl, rfl⟩ | ⟨hrb, hm2, rfl, hown2⟩
    · go_wp2
      go_ret
      exact ⟨rfl, hbel⟩
    · have HY : Hid (Bs w2 (.slice ao2 m2 cap2) (X ++ be b s)) := hown2.bs
      have HJ : Hid (val ((X ++ be b s).take (2 * s)) = a * 256 ^ s + b) := HJ0.out hrb
      have HLen : Hid ((X ++ be b s).length = 2 * s) := by show _ = _; rw [List.length_append, be_len]; omega
      clear hown2 hm2 hb1 hb2 hX hXl HJ0
      generalize X ++ be b s = ys at *
      go_wp2
      have HN : Hid (Calls Try.prog 15 #[.slice ao2 m2 cap2] w2.drew fun e w' => ∃ r og, e = .returned (.pointer (some ⟨r, 0, none⟩)) ∧ w2.drew.heap.size ≤ r ∧ (∀ g, og = some g → w2.drew.heap.size ≤ g) ∧ Rd w' r og ys 0 ∧ Below w2.drew.heap.size w2.drew w') := new_any HY.out.drew (by rw [HLen.out]; omega)
      have hor : bits .or .u64 (IntKind.u64.wrap ((a : Int) * 2 ^ (8 * (s : Int)).toNat)) (b : Int) = ((a * 256 ^ s + b : Nat) : Int) := moved a b s h4 hra' hrb
      generalize a * 256 ^ s + b = V at *
      have HM : Hid (∀ r og w3, Rd w3 r og ys 0 → Calls Try.prog 17 #[.pointer (some ⟨r, 0, none⟩), .int .i64 (IntKind.i64.wrap (2 * (s : Int)))] w3 fun e w' => e = .returned (.int .u64 (V : Nat)) ∧ But (· = r) w3 w') := by
        intro r og w3 h
        have e : IntKind.i64.wrap (2 * (s : Int)) = ((2 * s : Nat) : Int) := by rw [IntKind.wrap_i64]; omega
        rw [e, ← HJ.out]
        exact (num_ok h (2 * s) (by omega) (by omega) (by rw [HLen.out]; omega)).mono fun e w' h => ⟨h.1, h.2.2⟩
      have hw8 : IntKind.i64.wrap (8 * (s : Int)) = 8 * (s : Int) := by rw [IntKind.wrap_i64]; omega
      go_region_with (first
        | (go_at_call 15; refine Calls.mono HN.out ?_; rintro e w3 ⟨r, og, rfl, hr, hg, hrd, hb3⟩)
        | (go_at_call 17; refine Calls.mono (HM.out _ _ _ hrd) ?_; rintro e w4 ⟨rfl, hb4⟩)
        | (go_at_call 14; refine Calls.mono (awake_any _) ?_; rintro e w5 ⟨rfl, hb5⟩))
      all_goals
        go_wp2
        go_ret
        have q1 : Below w.heap.size w w2.drew := hbel.drew
        have q2 : Below w.heap.size w w3 := q1.trans (hb3.mono q1.size)
        have q3 : Below w.heap.size w w4 := q2.trans (hb4.below q2.size (fun k hk e => by have := q1.size; omega))
        exact ⟨rfl, q3.trans (hb5.mono q3.size)⟩

theorem rowJoins_walk (a b : Int) (size : Int) (w : World) (ha : (Lit.int .u64 a).wf = true) (hb : (Lit.int .u64 b).wf = true) (_hs : (Lit.int .i64 size).wf = true) :
    Calls Try.prog 7 #[.int .u64 a, .int .u64 b, .int .i64 size] w fun e w' => e = .returned (.bool true) ∧ Below w.heap.size w w' := by
  by_cases h : size < 1 ∨ 4 < size
  · exact rowJoins_out a b size w h
  · obtain ⟨a, rfl, _⟩ := wf_u64 ha
    obtain ⟨b, rfl, _⟩ := wf_u64 hb
    obtain ⟨s, rfl⟩ : ∃ s : Nat, size = s := ⟨size.toNat, by omega⟩
    exact rowJoins_in a b s w (by omega) (by omega)

set_option maxRecDepth 100000 in
theorem rowJoins_lifted (os : Os) (started : os.Started) (H : Type) (enc : TypeId × Value → H) :
    ReturnsInHanded {} Try.checked os 7 .any (Rows.rowJoinsSpec.pre6 enc Try.prog Try.f7 Rows.rowJoinsRow.domain false) (Rows.rowJoinsSpec.post enc Try.prog Try.f7 false true false false) := by
  refine returnsInHanded_of_change (C := Try.checked) (by kernel_rfl) started (by kernel_rfl) Try.func7
    (ChangeSpec.witness6 (enc := enc) (C := Try.checked) false ⟨#[], #[.int .u64 0, .int .u64 0, .int .i64 0], []⟩ 8 (by kernel_rfl) (by kernel_rfl) (by kernel_rfl) (by kernel_rfl)) ?_
  intro W base args ds gs before hval0 hW hcnd _
  have hval : ∀ (j : Nat) t v, Try.f7.params[j]? = some t → args[j]? = some v → Value.okWide Try.prog W .any base t v := hval0
  have hW' := hW
  obtain ⟨p, q, hA0, hV, rfl, hfz, hnd⟩ := hW
  have hA : DataW.TrodAll enc Try.prog W 0 (fun _ => true) true Try.f7.params.toList args.toList ds p := hA0
  rw [Try.params7] at hA hval
  obtain ⟨v0, vs0, d0, ds0, p0, q0, hargs, rfl, rfl, h0, r0⟩ := trodAll_cons hA
  obtain ⟨v1, vs1, d1, ds1, p1, q1, rfl, rfl, rfl, h1, r1⟩ := trodAll_cons r0
  obtain ⟨v2, vs2, d2, ds2, p2, q2, rfl, rfl, rfl, h2, r2⟩ := trodAll_cons r1
  obtain ⟨rfl, rfl, rfl⟩ := trodAll_nil r2
  obtain rfl : args = #[v0, v1, v2] := by cases args; simp_all
  obtain ⟨rfl, rfl⟩ := trodVars_none hV
  obtain ⟨a0, rfl, rfl, rfl, w0⟩ := open_int Try.underlying23 (hval 0 23 v0 rfl rfl) h0
  obtain ⟨a1, rfl, rfl, rfl, w1⟩ := open_int Try.underlying23 (hval 1 23 v1 rfl rfl) h1
  obtain ⟨a2, rfl, rfl, rfl, w2⟩ := open_int Try.underlying3 (hval 2 3 v2 rfl rfl) h2
  clear hA0 hval0
  refine (rowJoins_walk a0 a1 a2 W w0 w1 w2).mono fun e W' ⟨he, bel⟩ => ?_
  subst he
  exact ⟨_, rfl, _, _, _, [], _, [], hW', trodAll_mk1 (shut_bool Try.underlying4 _), (trodAll_cons_mk (shut_int Try.underlying23 w0) (trodAll_cons_mk (shut_int Try.underlying23 w1) (trodAll_cons_mk (shut_int Try.underlying3 w2) trodAll_mk0))), rfl, bel.frame _, fun h => by cases h⟩

theorem rowJoins_holds : Rows.RowJoinsSaid :=
  OpenClaim.holds_of_wide 7 Try.f7 rfl rfl rfl rfl rfl rfl rfl ⟨rfl, rfl, rfl, rfl, rfl⟩ rfl rfl rfl rfl rfl (by kernel_rfl) Try.func7 (by kernel_rfl)
    (of_decide_eq_true (by kernel_rfl)) (by unfold Func.isWrapper; first | (rw [if_pos (by decide +kernel)]; kernel_rfl) | (rw [if_neg (by decide +kernel)]; exact ⟨rfl, rfl⟩))
    (fun os started H enc _ => rowJoins_lifted os started H enc)
#print axioms rowJoins_holds
end Go.Proofs.Ytgffaekhhhkjcaa
