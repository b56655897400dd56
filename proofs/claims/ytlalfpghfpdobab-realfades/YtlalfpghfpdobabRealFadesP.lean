/- For every number and any counts: real.Fade answers the document's number to the last bit, and halved in two goes it is the same. No condition. -/
import Derived.Test.YtlalfpghfpdobabRealFade
import Derived.ProofKit
import Derived.OpenShut
import Derived.ChangeOld
import Derived.Below
namespace Go.Proofs.Ytlalfpghfpdobab
open Go.ChangeShapes Go.WideShapes Go.ChangeAt Go.RowKit

theorem int_eq {k : IntKind} {a b : Int} (h : a = b) : Value.int k a = .int k b := by rw [h]
theorem flv_eq {a b : Nat} (h : a = b) : Value.float .f64 a = .float .f64 b := by rw [h]

theorem fade_any (b : Nat) (N : Int) (w : World) (hb : b < 18446744073709551616) (n1 : -9223372036854775808 ≤ N) (n2 : N ≤ 9223372036854775807) :
    Calls Try.prog 6 #[.float .f64 b, .int .i64 N] w fun e w' => e = .returned (.float .f64 (fd b N.toNat)) ∧ w' = w := by
  have m1 := mg_lt b
  by_cases c1 : 9218868437227405312 ≤ mg b
  · rw [fd_big b _ c1]
    have c2 : decide (9218868437227405312 ≤ (mg b : Int)) = true := by simp; omega
    clear c1
    go_enter Try.func6, Try.ntmps6
    go_wp2_with (go_at_call 15; refine (magnitude_any _ _ (by assumption)).mono ?_; rintro e w' ⟨rfl, rfl⟩)
    go_ret
    exact ⟨rfl, rfl⟩
  · have c2 : decide (9218868437227405312 ≤ (mg b : Int)) = false := by simp; omega
    have hl : mg b < 9218868437227405312 := by omega
    have he := fd_num b N.toNat hl
    have H : Hid (fd b N.toNat = sg b + hfi N.toNat (mg b)) := he
    have h5 := from_run
    clear he c1
    go_enter Try.func6, Try.ntmps6
    go_wp2_with (go_at_call 15; refine (magnitude_any _ _ (by assumption)).mono ?_; rintro e w' ⟨rfl, rfl⟩)
    go_loop [1, 5] (fun n m => ∃ k : Nat, k ≤ N.toNat ∧ n = .int .i64 (N - k) ∧ m = .int .u64 ((hfi k (mg b) : Nat) : Int)) (fun n _ => (intOf n).toNat)
    case atStart => exact ⟨0, Nat.zero_le _, int_eq (by omega), rfl⟩
    case round =>
      obtain ⟨k, hk, rfl, rfl⟩ := hrel
      have hm2 := hfi_le k (mg b)
      have hm3 : hfi k (mg b) < 9223372036854775808 := by omega
      have ho := or_sg b (hfi k (mg b)) hm3
      by_cases c3 : 0 < N - (k : Int)
      · by_cases c4 : 0 < hfi k (mg b)
        · have HS : Hid (hfi (k + 1) (mg b) = hf (hfi k (mg b))) := hfi_succ k (mg b)
          go_wp2_with (go_at_call 16; refine (half_any _ _ (by assumption)).mono ?_; rintro e w' ⟨rfl, rfl⟩)
          go_round
          case rel => exact ⟨k + 1, by omega, int_eq (by omega), int_eq (by rw [HS.out])⟩
          case measure => simp [intOf]; omega
        · have HZ : Hid (hfi N.toNat (mg b) = hfi k (mg b)) := by
            have z : hfi k (mg b) = 0 := by omega
            have : hfi N.toNat (mg b) = hfi k (mg b) := by rw [z, hfi_stop k N.toNat (mg b) z hk]
            exact this
          go_wp2_with (go_at_call 18; refine (sign_any _ _ (by assumption)).mono ?_; rintro e w' ⟨rfl, rfl⟩)
          go_ret
          exact ⟨fl_num (by rw [H.out, HZ.out]), rfl⟩
      · have HZ : Hid (N.toNat = k) := by
          have : N.toNat = k := by omega
          exact this
        go_wp2_with (go_at_call 18; refine (sign_any _ _ (by assumption)).mono ?_; rintro e w' ⟨rfl, rfl⟩)
        go_ret
        exact ⟨fl_num (by rw [H.out, HZ.out]), rfl⟩

theorem refFade_any (b : Nat) (N : Int) (w : World) (hb : b < 18446744073709551616) (n1 : -9223372036854775808 ≤ N) (n2 : N ≤ 9223372036854775807) :
    Calls Try.prog 8 #[.float .f64 b, .int .i64 N] w fun e w' => e = .returned (.float .f64 (fd b N.toNat)) ∧ w' = w := by
  have HF : Hid (∀ n : Nat, 2200 ≤ n → fd b n = fd b 2200) := fd_far b
  go_enter Try.func8, Try.ntmps8
  go_wp2
  go_loop [0, 5] (fun x i => ∃ k : Nat, k ≤ N.toNat ∧ k ≤ 2200 ∧ i = .int .i64 k ∧ x = .float .f64 (fd b k)) (fun _ i => 2200 - (intOf i).toNat)
  case atStart => exact ⟨0, Nat.zero_le _, Nat.zero_le _, rfl, flv_eq (fd_zero b hb).symm⟩
  case round =>
    obtain ⟨k, hk, hk2, rfl, rfl⟩ := hrel
    have hl := fd_lt b k hb
    by_cases c1 : (k : Int) < N
    · by_cases c2 : (k : Int) < 2200
      · have HS : Hid (fd (fd b k) 1 = fd b (k + 1)) := fd_fd b k 1
        go_wp2_with (go_at_call 19; refine (Half_any _ _ (by assumption)).mono ?_; rintro e w' ⟨rfl, rfl⟩)
        go_round
        case rel => exact ⟨k + 1, by omega, by omega, by go_num, flv_eq HS.out⟩
        case measure => simp [intOf]; omega
      · go_wp2
        go_ret
        exact ⟨fl_num (by rw [HF.out N.toNat (by omega), show k = 2200 by omega]), rfl⟩
    · go_wp2
      go_ret
      exact ⟨fl_num (by rw [show N.toNat = k by omega]), rfl⟩

theorem realFades_walk (x : Nat) (n m : Int) (w : World) (wx : (Lit.float .f64 x).wf = true) (wn : (Lit.int .i64 n).wf = true) (wm : (Lit.int .i64 m).wf = true) :
    Calls Try.prog 3 #[.float .f64 x, .int .i64 n, .int .i64 m] w fun e w' => e = .returned (.bool true) ∧ Below w.heap.size w w' := by
  have hx := wf64 wx
  obtain ⟨n1, n2⟩ := wfi64 wn
  obtain ⟨m1, m2⟩ := wfi64 wm
  clear wx wn wm
  have hy := fd_lt x n.toNat hx
  have s1 := sa_refl (fd x n.toNat)
  have t1 : (FloatKind.f64.format.order 4609434218613702656 4609434218613702656 == some Ordering.eq) = true := by decide
  have t2 := fd_three
  have t3 : fd 4613937818241073152 (Int.toNat 1) = 4609434218613702656 := fd_three
  by_cases c : 0 ≤ n ∧ 0 ≤ m ∧ n ≤ 5000 ∧ m ≤ 5000
  · obtain ⟨c1, c2, c3, c4⟩ := c
    have hz := fd_lt (fd x n.toNat) m.toNat hy
    have hz2 := fd_lt x (n + m).toNat hx
    have s2 : sa (fd (fd x n.toNat) m.toNat) (fd x (n + m).toNat) = true := by
      rw [fd_fd, show (n + m).toNat = n.toNat + m.toNat by omega]; exact sa_refl _
    have b1 : -9223372036854775808 ≤ n + m := by omega
    have b2 : n + m ≤ 9223372036854775807 := by omega
    go_enter Try.func3, Try.ntmps3
    go_wp2_with (first
      | (go_at_call 6; refine (fade_any _ _ _ (by first | assumption | decide) (by first | assumption | decide) (by first | assumption | decide)).mono ?_; rintro e w' ⟨rfl, rfl⟩)
      | (go_at_call 8; refine (refFade_any _ _ _ (by assumption) (by assumption) (by assumption)).mono ?_; rintro e w' ⟨rfl, rfl⟩)
      | (go_at_call 7; refine (same_any _ _ _ (by assumption) (by assumption)).mono ?_; rintro e w' ⟨rfl, rfl⟩))
    go_ret
    exact ⟨rfl, Below.refl _ _⟩
  · by_cases d1 : n < 0
    · clear c
      go_enter Try.func3, Try.ntmps3
      go_wp2_with (first
        | (go_at_call 6; refine (fade_any _ _ _ (by first | assumption | decide) (by first | assumption | decide) (by first | assumption | decide)).mono ?_; rintro e w' ⟨rfl, rfl⟩)
        | (go_at_call 8; refine (refFade_any _ _ _ (by assumption) (by assumption) (by assumption)).mono ?_; rintro e w' ⟨rfl, rfl⟩)
        | (go_at_call 7; refine (same_any _ _ _ (by assumption) (by assumption)).mono ?_; rintro e w' ⟨rfl, rfl⟩))
      go_ret
      exact ⟨rfl, Below.refl _ _⟩
    · by_cases d2 : m < 0
      · clear c
        go_enter Try.func3, Try.ntmps3
        go_wp2_with (first
          | (go_at_call 6; refine (fade_any _ _ _ (by first | assumption | decide) (by first | assumption | decide) (by first | assumption | decide)).mono ?_; rintro e w' ⟨rfl, rfl⟩)
          | (go_at_call 8; refine (refFade_any _ _ _ (by assumption) (by assumption) (by assumption)).mono ?_; rintro e w' ⟨rfl, rfl⟩)
          | (go_at_call 7; refine (same_any _ _ _ (by assumption) (by assumption)).mono ?_; rintro e w' ⟨rfl, rfl⟩))
        go_ret
        exact ⟨rfl, Below.refl _ _⟩
      · by_cases d3 : 5000 < n
        · clear c
          go_enter Try.func3, Try.ntmps3
          go_wp2_with (first
            | (go_at_call 6; refine (fade_any _ _ _ (by first | assumption | decide) (by first | assumption | decide) (by first | assumption | decide)).mono ?_; rintro e w' ⟨rfl, rfl⟩)
            | (go_at_call 8; refine (refFade_any _ _ _ (by assumption) (by assumption) (by assumption)).mono ?_; rintro e w' ⟨rfl, rfl⟩)
            | (go_at_call 7; refine (same_any _ _ _ (by assumption) (by assumption)).mono ?_; rintro e w' ⟨rfl, rfl⟩))
          go_ret
          exact ⟨rfl, Below.refl _ _⟩
        · have d4 : 5000 < m := by omega
          clear c
          go_enter Try.func3, Try.ntmps3
          go_wp2_with (first
            | (go_at_call 6; refine (fade_any _ _ _ (by first | assumption | decide) (by first | assumption | decide) (by first | assumption | decide)).mono ?_; rintro e w' ⟨rfl, rfl⟩)
            | (go_at_call 8; refine (refFade_any _ _ _ (by assumption) (by assumption) (by assumption)).mono ?_; rintro e w' ⟨rfl, rfl⟩)
            | (go_at_call 7; refine (same_any _ _ _ (by assumption) (by assumption)).mono ?_; rintro e w' ⟨rfl, rfl⟩))
          go_ret
          exact ⟨rfl, Below.refl _ _⟩

set_option maxRecDepth 100000 in
theorem realFades_lifted (os : Os) (started : os.Started) (H : Type) (enc : TypeId × Value → H) :
    ReturnsInHanded {} Try.checked os 3 .any (Rows.realFadesSpec.pre6 enc Try.prog Try.f3 Rows.realFadesRow.domain false) (Rows.realFadesSpec.post enc Try.prog Try.f3 false true false false) := by
  refine returnsInHanded_of_change (C := Try.checked) (by kernel_rfl) started (by kernel_rfl) Try.func3
    (ChangeSpec.witness6 (enc := enc) (C := Try.checked) false ⟨#[], #[.float .f64 0, .int .i64 0, .int .i64 0], []⟩ 8 (by kernel_rfl) (by kernel_rfl) (by kernel_rfl) (by kernel_rfl)) ?_
  intro W base args ds gs before hval0 hW hcnd _
  have hval : ∀ (j : Nat) t v, Try.f3.params[j]? = some t → args[j]? = some v → Value.okWide Try.prog W .any base t v := hval0
  have hW' := hW
  obtain ⟨p, q, hA0, hV, rfl, hfz, hnd⟩ := hW
  have hA : DataW.TrodAll enc Try.prog W 0 (fun _ => true) true Try.f3.params.toList args.toList ds p := hA0
  rw [Try.params3] at hA hval
  obtain ⟨v0, vs0, d0, ds0, p0, q0, hargs, rfl, rfl, h0, r0⟩ := trodAll_cons hA
  obtain ⟨v1, vs1, d1, ds1, p1, q1, rfl, rfl, rfl, h1, r1⟩ := trodAll_cons r0
  obtain ⟨v2, vs2, d2, ds2, p2, q2, rfl, rfl, rfl, h2, r2⟩ := trodAll_cons r1
  obtain ⟨rfl, rfl, rfl⟩ := trodAll_nil r2
  obtain rfl : args = #[v0, v1, v2] := by cases args; simp_all
  obtain ⟨rfl, rfl⟩ := trodVars_none hV
  obtain ⟨a0, rfl, rfl, rfl, w0⟩ := open_float Try.underlying22 (hval 0 22 v0 rfl rfl) h0
  obtain ⟨a1, rfl, rfl, rfl, w1⟩ := open_int Try.underlying3 (hval 1 3 v1 rfl rfl) h1
  obtain ⟨a2, rfl, rfl, rfl, w2⟩ := open_int Try.underlying3 (hval 2 3 v2 rfl rfl) h2
  clear hA0 hval0
  refine (realFades_walk a0 a1 a2 W w0 w1 w2).mono fun e W' ⟨he, bel⟩ => ?_
  subst he
  exact ⟨_, rfl, _, _, _, [], _, [], hW', trodAll_mk1 (shut_bool Try.underlying4 _), (trodAll_cons_mk (shut_float Try.underlying22 w0) (trodAll_cons_mk (shut_int Try.underlying3 w1) (trodAll_cons_mk (shut_int Try.underlying3 w2) trodAll_mk0))), rfl, bel.frame _, fun h => by cases h⟩

theorem realFades_holds : Rows.RealFadesSaid :=
  OpenClaim.holds_of_wide 3 Try.f3 rfl rfl rfl rfl rfl rfl rfl ⟨rfl, rfl, rfl, rfl, rfl⟩ rfl rfl rfl rfl rfl (by kernel_rfl) Try.func3 (by kernel_rfl)
    (of_decide_eq_true (by kernel_rfl)) (by unfold Func.isWrapper; first | (rw [if_pos (by decide +kernel)]; kernel_rfl) | (rw [if_neg (by decide +kernel)]; exact ⟨rfl, rfl⟩))
    (fun os started H enc _ => realFades_lifted os started H enc)
#print axioms realFades_holds
end Go.Proofs.Ytlalfpghfpdobab
