/- For all two numbers: each is of the document's kind, kinds rise with the order, and a number's opposite is of the opposite kind. No condition. -/
import Derived.Test.YtlalfpghfpdobabRealOrd
import Derived.ProofKit
import Derived.OpenShut
import Derived.ChangeOld
import Derived.Below
namespace Go.Proofs.Ytlalfpghfpdobab
open Go.ChangeShapes Go.WideShapes Go.ChangeAt Go.RowKit

/-- The kind of the magnitude m with its sign set. -/
def cbl (m : Nat) : Int := if m = 9218868437227405312 then 1 else if 4503599627370496 ≤ m then 2 else if 0 < m then 3 else 4
/-- The kind. -/
def kd (b : Nat) : Int := if nn b then 0 else if ng b then cbl (mg b) else 9 - cbl (mg b)

theorem cbl_bd (m : Nat) : 1 ≤ cbl m ∧ cbl m ≤ 4 := by
  unfold cbl; split
  · omega
  · split
    · omega
    · split <;> omega

theorem classBelow_any (m : Nat) (w : World) :
    Calls Try.prog 24 #[.int .u64 (m : Int)] w fun e w' => e = .returned (.int .i64 (cbl m)) ∧ w' = w := by
  by_cases c1 : m = 9218868437227405312
  · have h : cbl m = 1 := by unfold cbl; rw [if_pos c1]
    rw [h]
    have c2 : ((m : Int) == 9218868437227405312) = true := by simp; omega
    clear c1 h
    go_enter Try.func24, Try.ntmps24
    go_wp2
    go_ret
    exact ⟨rfl, rfl⟩
  · have c2 : ((m : Int) == 9218868437227405312) = false := by simp; omega
    by_cases c3 : 4503599627370496 ≤ m
    · have h : cbl m = 2 := by unfold cbl; rw [if_neg c1, if_pos c3]
      rw [h]
      have c4 : 4503599627370496 ≤ (m : Int) := by omega
      clear c1 h c3
      go_enter Try.func24, Try.ntmps24
      go_wp2
      go_ret
      exact ⟨rfl, rfl⟩
    · by_cases c5 : 0 < m
      · have h : cbl m = 3 := by unfold cbl; rw [if_neg c1, if_neg c3, if_pos c5]
        rw [h]
        have c4 : decide (4503599627370496 ≤ (m : Int)) = false := by simp; omega
        clear c1 h c3
        go_enter Try.func24, Try.ntmps24
        go_wp2
        go_ret
        exact ⟨rfl, rfl⟩
      · have h : cbl m = 4 := by unfold cbl; rw [if_neg c1, if_neg c3, if_neg c5]
        rw [h]
        have c4 : decide (4503599627370496 ≤ (m : Int)) = false := by simp; omega
        clear c1 h c3
        go_enter Try.func24, Try.ntmps24
        go_wp2
        go_ret
        exact ⟨rfl, rfl⟩

theorem class_any (b : Nat) (w : World) (hb : b < 18446744073709551616) :
    Calls Try.prog 13 #[.float .f64 b] w fun e w' => e = .returned (.int .i64 (kd b)) ∧ w' = w := by
  have hc := cbl_bd (mg b)
  obtain ⟨h1, h2⟩ := hc
  cases hn : nn b
  · cases hg : ng b
    · have h : kd b = 9 - cbl (mg b) := by unfold kd; rw [hn, hg]; simp
      have hs : ((sg b : Int) == 0) = true := by unfold sg; rw [hg]; decide
      rw [h]
      clear h
      go_enter Try.func13, Try.ntmps13
      go_wp2_with (first
        | (go_at_call 23; refine (isNone_any _ _ (by assumption)).mono ?_; rintro e w' ⟨rfl, rfl⟩)
        | (go_at_call 15; refine (magnitude_any _ _ (by assumption)).mono ?_; rintro e w' ⟨rfl, rfl⟩)
        | (go_at_call 24; refine (classBelow_any _ _).mono ?_; rintro e w' ⟨rfl, rfl⟩)
        | (go_at_call 18; refine (sign_any _ _ (by assumption)).mono ?_; rintro e w' ⟨rfl, rfl⟩))
      go_ret
      exact ⟨rfl, rfl⟩
    · have h : kd b = cbl (mg b) := by unfold kd; rw [hn, hg]; simp
      have hs : ((sg b : Int) == 0) = false := by unfold sg; rw [hg]; decide
      rw [h]
      clear h
      go_enter Try.func13, Try.ntmps13
      go_wp2_with (first
        | (go_at_call 23; refine (isNone_any _ _ (by assumption)).mono ?_; rintro e w' ⟨rfl, rfl⟩)
        | (go_at_call 15; refine (magnitude_any _ _ (by assumption)).mono ?_; rintro e w' ⟨rfl, rfl⟩)
        | (go_at_call 24; refine (classBelow_any _ _).mono ?_; rintro e w' ⟨rfl, rfl⟩)
        | (go_at_call 18; refine (sign_any _ _ (by assumption)).mono ?_; rintro e w' ⟨rfl, rfl⟩))
      go_ret
      exact ⟨rfl, rfl⟩
  · have h : kd b = 0 := by unfold kd; rw [hn]; simp
    rw [h]
    clear h
    go_enter Try.func13, Try.ntmps13
    go_wp2_with (first
      | (go_at_call 23; refine (isNone_any _ _ (by assumption)).mono ?_; rintro e w' ⟨rfl, rfl⟩)
      | (go_at_call 15; refine (magnitude_any _ _ (by assumption)).mono ?_; rintro e w' ⟨rfl, rfl⟩)
      | (go_at_call 24; refine (classBelow_any _ _).mono ?_; rintro e w' ⟨rfl, rfl⟩)
      | (go_at_call 18; refine (sign_any _ _ (by assumption)).mono ?_; rintro e w' ⟨rfl, rfl⟩))
    go_ret
    exact ⟨rfl, rfl⟩

/-- The word without its fraction. -/
def qf (b : Nat) : Nat := b / 4503599627370496
/-- The exponent. -/
def ef (b : Nat) : Int := ((b / 4503599627370496 % 2048 : Nat) : Int)
/-- The fraction, moved up. -/
def zf (b : Nat) : Int := ((b : Int) * 4096) % 18446744073709551616

theorem shr52 (b : Nat) (t : TypeId) (k : IntKind) : binOp .shr t (.int .u64 (b : Int)) (.int k 52) = pure (.int .u64 (qf b : Int)) := by
  rw [binOp_shr, shift_shr .u64 k (b : Int) 52 (by decide) (by decide)]
  unfold qf; rfl
theorem shl12 (b : Nat) (t : TypeId) (k : IntKind) : binOp .shl t (.int .u64 (b : Int)) (.int k 12) = pure (.int .u64 (zf b)) := by
  rw [binOp_shl, shift_shl .u64 k (b : Int) 12 (by decide) (by decide)]
  unfold zf; rfl
theorem and2047 (b : Nat) (hb : b < 18446744073709551616) : bits .and .u64 (qf b : Int) 2047 = ef b := by
  have h := u64_and_nat (qf b) 2047 (by unfold qf; omega) (by omega)
  have e : qf b &&& 2047 = b / 4503599627370496 % 2048 := Nat.and_two_pow_sub_one_eq_mod (qf b) 11
  rw [e] at h
  exact h

theorem ef_eq (b : Nat) : ef b = ((mg b / 4503599627370496 : Nat) : Int) := by unfold ef mg; omega
theorem zf_eq (b : Nat) : zf b = ((mg b % 4503599627370496 : Nat) : Int) * 4096 := by unfold zf mg; omega

theorem refClass_any (b : Nat) (w : World) (hb : b < 18446744073709551616) :
    Calls Try.prog 14 #[.float .f64 b] w fun e w' => e = .returned (.int .i64 (kd b)) ∧ w' = w := by
  have h1 := bits_run b
  have h2 := shr52 b
  have h3 := shl12 b
  have h4 := and2047 b hb
  have h5 := shr63 b hb
  have eb1 : 0 ≤ ef b := by unfold ef; omega
  have eb2 : ef b ≤ 2047 := by unfold ef; omega
  have e1 := ef_eq b
  have e2 := zf_eq b
  have hm := mg_lt b
  cases hn : nn b
  · rw [nn_false] at hn
    have hn2 : nn b = false := by rw [nn_false]; exact hn
    by_cases c1 : mg b = 9218868437227405312
    · have he : (ef b == 2047) = true := by simp; omega
      have hz : (zf b == 0) = true := by simp; omega
      cases hg : ng b
      · have h : kd b = 8 := by unfold kd cbl; rw [hn2, hg, c1]; simp
        rw [h]; rw [hg] at h5
        clear h e1 e2 hb hm hn c1
        go_enter Try.func14, Try.ntmps14
        go_wp2
        go_ret
        exact ⟨rfl, rfl⟩
      · have h : kd b = 1 := by unfold kd cbl; rw [hn2, hg, c1]; simp
        rw [h]; rw [hg] at h5
        clear h e1 e2 hb hm hn c1
        go_enter Try.func14, Try.ntmps14
        go_wp2
        go_ret
        exact ⟨rfl, rfl⟩
    · have he : (ef b == 2047) = false := by simp; omega
      by_cases c2 : 4503599627370496 ≤ mg b
      · have hk : cbl (mg b) = 2 := by unfold cbl; rw [if_neg c1, if_pos c2]
        have hz : (ef b == 0) = false := by simp; omega
        cases hg : ng b
        · have h : kd b = 7 := by unfold kd; rw [hn2, hg, hk]; simp
          rw [h]; rw [hg] at h5
          clear h e1 e2 hb hm hn c1
          go_enter Try.func14, Try.ntmps14
          go_wp2
          go_ret
          exact ⟨rfl, rfl⟩
        · have h : kd b = 2 := by unfold kd; rw [hn2, hg, hk]; simp
          rw [h]; rw [hg] at h5
          clear h e1 e2 hb hm hn c1
          go_enter Try.func14, Try.ntmps14
          go_wp2
          go_ret
          exact ⟨rfl, rfl⟩
      · have hz : (ef b == 0) = true := by simp; omega
        by_cases c3 : 0 < mg b
        · have hk : cbl (mg b) = 3 := by unfold cbl; rw [if_neg c1, if_neg c2, if_pos c3]
          have hy : (zf b == 0) = false := by simp; omega
          cases hg : ng b
          · have h : kd b = 6 := by unfold kd; rw [hn2, hg, hk]; simp
            rw [h]; rw [hg] at h5
            clear h e1 e2 hb hm hn c1
            go_enter Try.func14, Try.ntmps14
            go_wp2
            go_ret
            exact ⟨rfl, rfl⟩
          · have h : kd b = 3 := by unfold kd; rw [hn2, hg, hk]; simp
            rw [h]; rw [hg] at h5
            clear h e1 e2 hb hm hn c1
            go_enter Try.func14, Try.ntmps14
            go_wp2
            go_ret
            exact ⟨rfl, rfl⟩
        · have hk : cbl (mg b) = 4 := by unfold cbl; rw [if_neg c1, if_neg c2, if_neg c3]
          have hy : (zf b == 0) = true := by simp; omega
          cases hg : ng b
          · have h : kd b = 5 := by unfold kd; rw [hn2, hg, hk]; simp
            rw [h]; rw [hg] at h5
            clear h e1 e2 hb hm hn c1
            go_enter Try.func14, Try.ntmps14
            go_wp2
            go_ret
            exact ⟨rfl, rfl⟩
          · have h : kd b = 4 := by unfold kd; rw [hn2, hg, hk]; simp
            rw [h]; rw [hg] at h5
            clear h e1 e2 hb hm hn c1
            go_enter Try.func14, Try.ntmps14
            go_wp2
            go_ret
            exact ⟨rfl, rfl⟩
  · have h : kd b = 0 := by unfold kd; rw [hn]; simp
    rw [nn_true] at hn
    have he : (ef b == 2047) = true := by simp; omega
    have hz : (zf b == 0) = false := by simp; omega
    rw [h]
    clear h e1 e2 hb hm hn
    go_enter Try.func14, Try.ntmps14
    go_wp2
    go_ret
    exact ⟨rfl, rfl⟩

/-- The opposite's bits. -/
def op (a : Nat) : Nat := if ng a then a - 9223372036854775808 else a + 9223372036854775808

theorem neg_run (a : Nat) (ha : a < 18446744073709551616) : Op.unary .neg (.float .f64 a) = pure (.float .f64 (op a)) := by
  have e : a ^^^ 9223372036854775808 = op a := by
    have hk : (9223372036854775808 : Nat) = 2 ^ 63 := by decide
    unfold op ng
    by_cases hg : 9223372036854775808 ≤ a
    · rw [if_pos (by simpa using hg)]
      obtain ⟨m, rfl⟩ : ∃ m, a = 9223372036854775808 + m := ⟨a - 9223372036854775808, by omega⟩
      have h1 := Nat.two_pow_add_eq_or_of_lt (i := 63) (b := m) (by omega) 1
      have h2 : 9223372036854775808 + m = 9223372036854775808 ^^^ m := by
        apply Nat.eq_of_testBit_eq
        intro i
        have h3 : 9223372036854775808 + m = 9223372036854775808 ||| m := by simpa using h1
        rw [h3, Nat.testBit_or, Nat.testBit_xor]
        by_cases hi : i = 63
        · subst hi
          have : m.testBit 63 = false := Nat.testBit_lt_two_pow (by omega)
          rw [this]; simp
        · have h0 : Nat.testBit 9223372036854775808 i = false := by rw [hk]; exact Nat.testBit_two_pow_of_ne (fun h => hi h.symm)
          rw [h0]; simp
      rw [h2, Nat.xor_comm 9223372036854775808 m, Nat.xor_assoc, Nat.xor_self, Nat.xor_zero, Nat.xor_comm m, ← h2]
      omega
    · rw [if_neg (by simpa using hg)]
      have h1 := Nat.two_pow_add_eq_or_of_lt (i := 63) (b := a) (by omega) 1
      have h3 : 9223372036854775808 + a = 9223372036854775808 ||| a := by simpa using h1
      rw [Nat.add_comm, h3]
      apply Nat.eq_of_testBit_eq
      intro i
      rw [Nat.testBit_or, Nat.testBit_xor]
      by_cases hi : i = 63
      · subst hi
        have : a.testBit 63 = false := Nat.testBit_lt_two_pow (by omega)
        rw [this]; simp
      · have h0 : Nat.testBit 9223372036854775808 i = false := by rw [hk]; exact Nat.testBit_two_pow_of_ne (fun h => hi h.symm)
        rw [h0]; simp
  rw [← e]; rfl

theorem op_lt (a : Nat) (ha : a < 18446744073709551616) : op a < 18446744073709551616 := by
  unfold op ng; split
  · omega
  · rename_i h; simp at h; omega
theorem mg_op (a : Nat) : mg (op a) = mg a := by
  unfold op ng mg; split
  · rename_i h; simp at h; omega
  · omega
theorem ng_op (a : Nat) (ha : a < 18446744073709551616) : ng (op a) = !ng a := by
  unfold op
  cases h : ng a
  · unfold ng; simp
  · unfold ng at *; simp at *; omega
theorem nn_op (a : Nat) : nn (op a) = nn a := by unfold nn; rw [mg_op]

theorem kd_op (a : Nat) (ha : a < 18446744073709551616) (h : nn a = false) : kd (op a) = 9 - kd a := by
  unfold kd; rw [nn_op, ng_op a ha, mg_op, h]
  cases ng a
  · simp; omega
  · simp
theorem kd_bd (a : Nat) (h : nn a = false) : 1 ≤ kd a ∧ kd a ≤ 8 := by
  have := cbl_bd (mg a)
  unfold kd; rw [h]; cases ng a <;> simp <;> omega
theorem kd_nan (a : Nat) (h : nn a = true) : kd a = 0 := by unfold kd; rw [h]; simp

theorem cbl_mono (m n : Nat) (h : m ≤ n) (hn : n ≤ 9218868437227405312) : cbl n ≤ cbl m := by
  unfold cbl
  repeat' split
  all_goals omega

theorem kd_mono (a b : Nat) (na : nn a = false) (nb : nn b = false) (h : ls a b = true) : kd a ≤ kd b := by
  have hr : rk a < rk b := by unfold ls at h; simpa using h
  have ha := cbl_bd (mg a)
  have hb := cbl_bd (mg b)
  have la := (nn_false a).1 na
  have lb := (nn_false b).1 nb
  unfold rk at hr
  unfold kd
  rw [na, nb] at *
  cases ga : ng a <;> cases gb : ng b <;> rw [ga, gb] at hr <;> simp at hr ⊢
  · have := cbl_mono (mg a) (mg b) (by omega) lb; omega
  · omega
  · omega
  · exact cbl_mono (mg b) (mg a) (by omega) la

theorem kd_one : kd 4607182418800017408 = 7 := by decide

theorem realClasses_walk (a b : Nat) (w : World) (wa : (Lit.float .f64 a).wf = true) (wb : (Lit.float .f64 b).wf = true) :
    Calls Try.prog 5 #[.float .f64 a, .float .f64 b] w fun e w' => e = .returned (.bool true) ∧ Below w.heap.size w w' := by
  have ha := wf64 wa
  have hb := wf64 wb
  clear wa wb
  have h1 := kd_one
  have h2 := neg_run a ha
  have h3 := op_lt a ha
  cases na : nn a
  · have k1 := kd_op a ha na
    obtain ⟨k2, k3⟩ := kd_bd a na
    have k4 : (kd a == 0) = false := by simp; omega
    cases nb : nn b
    · obtain ⟨k5, k6⟩ := kd_bd b nb
      have k7 : (kd b == 0) = false := by simp; omega
      cases l : ls a b
      · go_enter Try.func5, Try.ntmps5
        go_wp2_with (first
          | (go_at_call 13; refine (class_any _ _ (by first | assumption | decide)).mono ?_; rintro e w' ⟨rfl, rfl⟩)
          | (go_at_call 14; refine (refClass_any _ _ (by assumption)).mono ?_; rintro e w' ⟨rfl, rfl⟩)
          | (go_at_call 12; refine (refLess_any _ _ _ (by assumption) (by assumption)).mono ?_; rintro e w' ⟨rfl, rfl⟩))
        go_ret
        exact ⟨rfl, Below.refl _ _⟩
      · have k8 := kd_mono a b na nb l
        go_enter Try.func5, Try.ntmps5
        go_wp2_with (first
          | (go_at_call 13; refine (class_any _ _ (by first | assumption | decide)).mono ?_; rintro e w' ⟨rfl, rfl⟩)
          | (go_at_call 14; refine (refClass_any _ _ (by assumption)).mono ?_; rintro e w' ⟨rfl, rfl⟩)
          | (go_at_call 12; refine (refLess_any _ _ _ (by assumption) (by assumption)).mono ?_; rintro e w' ⟨rfl, rfl⟩))
        go_ret
        exact ⟨rfl, Below.refl _ _⟩
    · have k7 := kd_nan b nb
      go_enter Try.func5, Try.ntmps5
      go_wp2_with (first
        | (go_at_call 13; refine (class_any _ _ (by first | assumption | decide)).mono ?_; rintro e w' ⟨rfl, rfl⟩)
        | (go_at_call 14; refine (refClass_any _ _ (by assumption)).mono ?_; rintro e w' ⟨rfl, rfl⟩)
        | (go_at_call 12; refine (refLess_any _ _ _ (by assumption) (by assumption)).mono ?_; rintro e w' ⟨rfl, rfl⟩))
      go_ret
      exact ⟨rfl, Below.refl _ _⟩
  · have k1 := kd_nan a na
    go_enter Try.func5, Try.ntmps5
    go_wp2_with (first
      | (go_at_call 13; refine (class_any _ _ (by first | assumption | decide)).mono ?_; rintro e w' ⟨rfl, rfl⟩)
      | (go_at_call 14; refine (refClass_any _ _ (by assumption)).mono ?_; rintro e w' ⟨rfl, rfl⟩)
      | (go_at_call 12; refine (refLess_any _ _ _ (by assumption) (by assumption)).mono ?_; rintro e w' ⟨rfl, rfl⟩))
    go_ret
    exact ⟨rfl, Below.refl _ _⟩

set_option maxRecDepth 100000 in
theorem realClasses_lifted (os : Os) (started : os.Started) (H : Type) (enc : TypeId × Value → H) :
    ReturnsInHanded {} Try.checked os 5 .any (Rows.realClassesSpec.pre6 enc Try.prog Try.f5 Rows.realClassesRow.domain false) (Rows.realClassesSpec.post enc Try.prog Try.f5 false true false false) := by
  refine returnsInHanded_of_change (C := Try.checked) (by kernel_rfl) started (by kernel_rfl) Try.func5
    (ChangeSpec.witness6 (enc := enc) (C := Try.checked) false ⟨#[], #[.float .f64 0, .float .f64 0], []⟩ 8 (by kernel_rfl) (by kernel_rfl) (by kernel_rfl) (by kernel_rfl)) ?_
  intro W base args ds gs before hval0 hW hcnd _
  have hval : ∀ (j : Nat) t v, Try.f5.params[j]? = some t → args[j]? = some v → Value.okWide Try.prog W .any base t v := hval0
  have hW' := hW
  obtain ⟨p, q, hA0, hV, rfl, hfz, hnd⟩ := hW
  have hA : DataW.TrodAll enc Try.prog W 0 (fun _ => true) true Try.f5.params.toList args.toList ds p := hA0
  rw [Try.params5] at hA hval
  obtain ⟨v0, vs0, d0, ds0, p0, q0, hargs, rfl, rfl, h0, r0⟩ := trodAll_cons hA
  obtain ⟨v1, vs1, d1, ds1, p1, q1, rfl, rfl, rfl, h1, r1⟩ := trodAll_cons r0
  obtain ⟨rfl, rfl, rfl⟩ := trodAll_nil r1
  obtain rfl : args = #[v0, v1] := by cases args; simp_all
  obtain ⟨rfl, rfl⟩ := trodVars_none hV
  obtain ⟨a0, rfl, rfl, rfl, w0⟩ := open_float Try.underlying22 (hval 0 22 v0 rfl rfl) h0
  obtain ⟨a1, rfl, rfl, rfl, w1⟩ := open_float Try.underlying22 (hval 1 22 v1 rfl rfl) h1
  clear hA0 hval0
  refine (realClasses_walk a0 a1 W w0 w1).mono fun e W' ⟨he, bel⟩ => ?_
  subst he
  exact ⟨_, rfl, _, _, _, [], _, [], hW', trodAll_mk1 (shut_bool Try.underlying4 _), (trodAll_cons_mk (shut_float Try.underlying22 w0) (trodAll_cons_mk (shut_float Try.underlying22 w1) trodAll_mk0)), rfl, bel.frame _, fun h => by cases h⟩

theorem realClasses_holds : Rows.RealClassesSaid :=
  OpenClaim.holds_of_wide 5 Try.f5 rfl rfl rfl rfl rfl rfl rfl ⟨rfl, rfl, rfl, rfl, rfl⟩ rfl rfl rfl rfl rfl (by kernel_rfl) Try.func5 (by kernel_rfl)
    (of_decide_eq_true (by kernel_rfl)) (by unfold Func.isWrapper; first | (rw [if_pos (by decide +kernel)]; kernel_rfl) | (rw [if_neg (by decide +kernel)]; exact ⟨rfl, rfl⟩))
    (fun os started H enc _ => realClasses_lifted os started H enc)
#print axioms realClasses_holds
end Go.Proofs.Ytlalfpghfpdobab
