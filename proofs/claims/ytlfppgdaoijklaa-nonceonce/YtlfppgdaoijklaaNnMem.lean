/- The program's source of numbers that are used once, in memory: New, Next, Left; one that is none. -/
import Derived.Test.YtlfppgdaoijklaaEntryVar
import Derived.Test.YtlfppgdaoijklaaIntKit
import Derived.Test.YtlfppgdaoijklaaResults
import Derived.Deep.Cut
namespace Go.Proofs.Ytlfppgdaoijklaa
open Go.RowKit

/-- A source of boot B that stands at p; behind the greatest number it stays. -/
def ncl (B p : Nat) : List Value := [.int .u32 (B : Int), .int .u64 ((min p 18446744073709551615 : Nat) : Int), .bool (decide (18446744073709551616 ≤ p))]
structure Src (w : World) (g B p : Nat) : Prop where
  blk : Blk w g 43 (ncl B p)
  hB : B < 4294967296
def tldE (E B p : Nat) : En := if p < 18446744073709551616 then ⟨E, B, p⟩ else ⟨0, 0, 0⟩
def codE (p : Nat) : Int := if p < 18446744073709551616 then 0 else 13
def lef (p : Nat) : Nat := if p = 0 then 18446744073709551615 else 18446744073709551616 - p
theorem iBool : (Try.prog.info? 4).map (·.size) = some 1 := by kernel_rfl
theorem iU64 : (Try.prog.info? 23).map (·.size) = some 1 := by kernel_rfl
section
variable {w w' : World} {g B p : Nat}
theorem Src.but {R : Nat → Prop} (h : Src w g B p) (k : But R w w') (hr : ¬ R g) : Src w' g B p := ⟨h.blk.but k hr, h.hB⟩
theorem Src.grow (h : Src w g B p) (k : Grow w w') : Src w' g B p := h.but k (fun h => h)
theorem nnew_any (w : World) (B p : Nat) (hB : B < 4294967296) (hp : p < 18446744073709551616) :
    Calls Try.prog 7 #[.int .u32 (B : Int), .int .u64 (p : Int)] w fun e w' => e = .returned (ptr w.heap.size) ∧ Src w' w.heap.size B p ∧ Grow w w' := by
  have HF : Hid (Src (w.alloc (.cells #[.int .u32 (B : Int), .int .u64 (p : Int), .bool false] 43)) w.heap.size B p ∧ Grow w (w.alloc (.cells #[.int .u32 (B : Int), .int .u64 (p : Int), .bool false] 43))) := by
    refine ⟨⟨?_, hB⟩, (But.refl _ w).alloc _⟩
    have e : ncl B p = [.int .u32 (B : Int), .int .u64 (p : Int), .bool false] := by
      unfold ncl
      rw [Nat.min_eq_left (by omega), decide_eq_false (by omega)]
    rw [e]
    exact Blk.new (L := [.int .u32 (B : Int), .int .u64 (p : Int), .bool false]) rfl
  clear hB hp
  go_enter Try.func7, Try.ntmps7
  go_wp2
  go_ret
  exact ⟨rfl, HF.out⟩
theorem nleft_nil (w : World) : Calls Try.prog 9 #[.pointer none] w fun e w' => e = .returned (.int .u64 0) ∧ w' = w := by
  go_enter Try.func9, Try.ntmps9
  go_wp2
  go_ret
  exact ⟨rfl, rfl⟩
theorem nleft_any (h : Src w g B p) : Calls Try.prog 9 #[ptr g] w fun e w' => e = .returned (.int .u64 (lef p : Int)) ∧ w' = w := by
  have c1 : w.cell? ⟨g, 1, none⟩ = some (.int .u64 ((min p 18446744073709551615 : Nat) : Int)) := h.blk.cell 1
  have c2 : w.cell? ⟨g, 2, none⟩ = some (.bool (decide (18446744073709551616 ≤ p))) := h.blk.cell 2
  clear h
  by_cases hp : 18446744073709551616 ≤ p
  · rw [decide_eq_true hp] at c2
    have e : lef p = 0 := by unfold lef; rw [if_neg (by omega)]; omega
    rw [e]
    clear hp e c1
    go_enter Try.func9, Try.ntmps9
    go_wp2
    go_ret
    exact ⟨rfl, rfl⟩
  · rw [decide_eq_false hp] at c2
    rw [Nat.min_eq_left (by omega)] at c1
    by_cases h0 : p = 0
    · subst h0
      have e : lef 0 = 18446744073709551615 := rfl
      rw [e]
      clear hp e
      go_enter Try.func9, Try.ntmps9
      go_wp2
      go_ret
      exact ⟨rfl, rfl⟩
    · have e : (lef p : Int) = 18446744073709551616 - (p : Int) := by unfold lef; rw [if_neg h0]; omega
      rw [e]
      obtain ⟨N, hN⟩ : ∃ N : Int, N = (p : Int) := ⟨_, rfl⟩
      rw [← hN] at c1 ⊢
      have h1 : 0 < N := by omega
      have h2 : N < 18446744073709551616 := by omega
      have t1 : (N == 0) = false := by simp; omega
      clear hN e h0 hp
      go_enter Try.func9, Try.ntmps9
      have e3 : (18446744073709551615 : Int) - N + 1 = 18446744073709551616 - N := by omega
      rw [← e3]
      clear e3
      go_wp2
      go_ret
      exact ⟨rfl, rfl⟩
end
end Go.Proofs.Ytlfppgdaoijklaa
