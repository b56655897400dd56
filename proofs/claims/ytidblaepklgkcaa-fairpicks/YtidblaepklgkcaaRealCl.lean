/- Numbers brought between two others. -/
import Derived.Test.YtidblaepklgkcaaRealOrd
namespace Go.Proofs.Ytidblaepklgkcaa
open Go.RowKit

/-- x brought between l and h. -/
def cl (x l h : Nat) : Nat := if ls x l || ls h l then l else if ls h x then h else x
theorem cl_low (x l h : Nat) (e : (ls x l || ls h l) = true) : cl x l h = l := by unfold cl; rw [if_pos e]
theorem cl_high (x l h : Nat) (e : (ls x l || ls h l) = false) (f : ls h x = true) : cl x l h = h := by unfold cl; rw [if_neg (by simp [e]), if_pos f]
theorem cl_mid (x l h : Nat) (e : (ls x l || ls h l) = false) (f : ls h x = false) : cl x l h = x := by unfold cl; rw [if_neg (by simp [e]), if_neg (by simp [f])]
theorem cl_cases (x l h : Nat) : cl x l h = l ∨ cl x l h = h ∨ cl x l h = x := by
  unfold cl
  split
  · exact .inl rfl
  · split
    · exact .inr (.inl rfl)
    · exact .inr (.inr rfl)
theorem clamp_any (x l h : Nat) (w : World) (hx : x < 18446744073709551616) (hl : l < 18446744073709551616) (hh : h < 18446744073709551616) :
    Calls Try.prog 53 #[.float .f64 x, .float .f64 l, .float .f64 h] w fun e w' => e = .returned (.float .f64 (cl x l h)) ∧ w' = w := by
  cases c1 : ls x l <;> cases c2 : ls h l <;> cases c3 : ls h x
  all_goals
    first | rw [cl_low x l h (by rw [c1, c2]; rfl)] | rw [cl_high x l h (by rw [c1, c2]; rfl) c3] | rw [cl_mid x l h (by rw [c1, c2]; rfl) c3]
    go_enter Try.func53, Try.ntmps53
    go_wp2_with (go_at_call 55; refine (less_any _ _ _ (by assumption) (by assumption)).mono ?_; rintro e w' ⟨rfl, rfl⟩)
    go_ret
    exact ⟨rfl, rfl⟩
theorem refClamp_any (x l h : Nat) (w : World) (hx : x < 18446744073709551616) (hl : l < 18446744073709551616) (hh : h < 18446744073709551616) :
    Calls Try.prog 50 #[.float .f64 x, .float .f64 l, .float .f64 h] w fun e w' => e = .returned (.float .f64 (cl x l h)) ∧ w' = w := by
  cases c1 : ls x l <;> cases c2 : ls h l <;> cases c3 : ls h x
  all_goals
    first | rw [cl_low x l h (by rw [c1, c2]; rfl)] | rw [cl_high x l h (by rw [c1, c2]; rfl) c3] | rw [cl_mid x l h (by rw [c1, c2]; rfl) c3]
    go_enter Try.func50, Try.ntmps50
    go_wp2_with (go_at_call 54; refine (refLess_any _ _ _ (by assumption) (by assumption)).mono ?_; rintro e w' ⟨rfl, rfl⟩)
    go_ret
    exact ⟨rfl, rfl⟩
theorem isnan_any (b : Nat) (w : World) (hb : b < 18446744073709551616) : Calls Try.prog 57 #[.float .f64 b] w fun e w' => e = .returned (.bool (nn b)) ∧ w' = w := by
  have hne := ne_self b hb
  go_enter Try.func57, Try.ntmps57
  go_wp2
  go_ret
  exact ⟨rfl, rfl⟩
end Go.Proofs.Ytidblaepklgkcaa
