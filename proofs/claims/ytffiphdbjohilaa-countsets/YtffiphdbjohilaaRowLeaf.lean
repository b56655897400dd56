/- row: isSize, bytes.Clone, New, Left, Fault, End: the small ones. -/
import Derived.Test.YtffiphdbjohilaaSizes
import Derived.Test.YtffiphdbjohilaaBytesLeaf
import Derived.Laws.Cover3
import Derived.Laws.Pointers
namespace Go.Proofs.Ytffiphdbjohilaa
open Go.RowKit

theorem Ow.slice {w : World} {base : Nat} {v : Value} {zs : List Nat} (h : Ow w base v zs) : ∃ ao n cap, v = .slice ao n cap := by
  obtain ⟨ao, cap, e, _⟩ := h.bs.gen; exact ⟨_, _, _, e⟩

/-- The reader at block r: what is left to read, and its fault; og: the block of the bytes, if there is one. -/
structure Rd (w : World) (r : Nat) (og : Option Nat) (zs : List Nat) (f : Int) : Prop where
  ex : ∃ rest, w.heap[r]? = some (.cells #[rest, .int .i64 f] 61 (0, 0)) ∧ Bs w rest zs ∧ (∀ k, rest.ownBlock = some k → og = some k)
  og : ∀ g, og = some g → g ≠ r ∧ g < w.heap.size
  small : zs.length ≤ 140737488355328

theorem Rd.lt {w : World} {r : Nat} {og : Option Nat} {zs : List Nat} {f : Int} (h : Rd w r og zs f) : r < w.heap.size := by
  obtain ⟨rest, hh, _⟩ := h.ex; exact lt_of_block hh
theorem Rd.but {R : Nat → Prop} {w w' : World} {r : Nat} {og : Option Nat} {zs : List Nat} {f : Int} (h : Rd w r og zs f) (k : But R w w') (hr : ¬ R r) (hg : ∀ g, og = some g → ¬ R g) : Rd w' r og zs f := by
  have hl := h.lt
  obtain ⟨⟨rest, hh, hb, ho⟩, h2, h3⟩ := h
  refine ⟨⟨rest, (k.block r hl hr).trans hh, hb.but k (fun j e _ => hg j (ho j e)), ho⟩, fun g e => ⟨(h2 g e).1, Nat.lt_of_lt_of_le (h2 g e).2 k.size⟩, h3⟩
theorem Rd.below {w w' : World} {r : Nat} {og : Option Nat} {zs : List Nat} {f : Int} (h : Rd w r og zs f) (k : Below w.heap.size w w') : Rd w' r og zs f :=
  h.but (R := fun _ => False) (But.of k) (fun h => h) (fun _ _ h => h)

theorem reader_any {v : Value} {xs : List Nat} {w : World} (hv : Bs w v xs) (hl : xs.length ≤ 140737488355328) :
    Calls Try.prog 24 #[v] w fun e w' => ∃ r og, e = .returned (.pointer (some ⟨r, 0, none⟩)) ∧ w.heap.size ≤ r ∧ (∀ g, og = some g → w.heap.size ≤ g) ∧ Rd w' r og xs 0 ∧ Below w.heap.size w w' := by
  have HC : Hid (Calls Try.prog 28 #[v] w fun e w' => ∃ v', e = .returned v' ∧ Ow w' w.heap.size v' xs ∧ Below w.heap.size w w') := clone_any hv hl
  clear hv
  go_enter Try.func24, Try.ntmps24
  go_wp2_with (go_at_call 28; refine Calls.mono HC.out ?_; rintro e w1 ⟨v', rfl, hown, hbel⟩; obtain ⟨ao, n, cap, rfl⟩ := hown.slice)
  go_ret
  have h1 := hown.ge
  have hs := hbel.size
  refine ⟨w1.heap.size, (Value.slice ao n cap).ownBlock, rfl, hs, fun g e => (h1 g e).1, ⟨⟨_, heap_alloc_new _ _, (hown.alloc _).bs, fun k e => e⟩, ?_, hl⟩, hbel.alloc hs _⟩
  intro g e
  have := (h1 g e).2
  simp; omega

theorem ptr_eql (w : World) (p : Option Addr) : Sem.run Try.prog (binOp .eql 53 (.pointer p) (.pointer none)) w = .ok (.bool p.isNone) w := by
  have h := run_equal_pointer_nil (P := Try.prog) w 53 p (by kernel_rfl)
  simp [binOp, h]

theorem Rd.cells {w : World} {r : Nat} {og : Option Nat} {zs : List Nat} {f : Int} (h : Rd w r og zs f) : ∃ ao cap, w.cell? ⟨r, 0, none⟩ = some (.slice ao zs.length cap) ∧ w.cell? ⟨r, 1, none⟩ = some (.int .i64 f) ∧
    w.frozen? ⟨r, 0, none⟩ = false ∧ w.frozen? ⟨r, 1, none⟩ = false ∧ Bs w (.slice ao zs.length cap) zs ∧ (∀ k, (Value.slice ao zs.length cap).ownBlock = some k → og = some k) := by
  obtain ⟨⟨rest, hh, hb, ho⟩, _, _⟩ := h
  obtain ⟨ao, cap, rfl, _⟩ := hb.gen
  refine ⟨ao, cap, ?_, ?_, frozen_of_row w r 0 _ _ hh, frozen_of_row w r 1 _ _ hh, hb, ho⟩
  · rw [cell_of_row w r 0 _ _ _ hh]; rfl
  · rw [cell_of_row w r 1 _ _ _ hh]; rfl

theorem fault_any {w : World} {r : Nat} {og : Option Nat} {zs : List Nat} {f : Int} (h : Rd w r og zs f) :
    Calls Try.prog 37 #[.pointer (some ⟨r, 0, none⟩)] w fun e w' => e = .returned (.int .i64 f) ∧ w' = w := by
  obtain ⟨ao, cap, c0, c1, _⟩ := h.cells
  have hp := ptr_eql w (some ⟨r, 0, none⟩)
  go_enter Try.func37, Try.ntmps37
  go_wp2
  go_ret
  exact ⟨rfl, rfl⟩
theorem fault_nil (w : World) : Calls Try.prog 37 #[.pointer none] w fun e w' => e = .returned (.int .i64 5) ∧ w' = w := by
  have hp := ptr_eql w none
  go_enter Try.func37, Try.ntmps37
  go_wp2
  go_ret
  exact ⟨rfl, rfl⟩
end Go.Proofs.Ytffiphdbjohilaa
