/- row: isSize, bytes.Clone, New, Left, Fault, End: the small ones. -/
import Derived.Test.YtdlalpklopnpjaaRefBytes
import Derived.Laws.Cover3
import Derived.Laws.Pointers
namespace Go.Proofs.Ytdlalpklopnpjaa
open Go.RowKit

theorem isSize_any (n : Int) (w : World) :
    Calls Try.prog 57 #[.int .i64 n] w fun e w' => e = .returned (.bool (decide (1 ≤ n ∧ n ≤ 8))) ∧ w' = w := by
  by_cases h1 : 1 ≤ n
  · by_cases h2 : n ≤ 8
    · rw [decide_eq_true ⟨h1, h2⟩]
      go_enter Try.func57, Try.ntmps57
      go_wp2
      go_ret
      exact ⟨rfl, rfl⟩
    · rw [decide_eq_false (fun h => h2 h.2)]
      go_enter Try.func57, Try.ntmps57
      go_wp2
      go_ret
      exact ⟨rfl, rfl⟩
  · rw [decide_eq_false (fun h => h1 h.1)]
    go_enter Try.func57, Try.ntmps57
    go_wp2
    go_ret
    exact ⟨rfl, rfl⟩

theorem nil_eql (w : World) (ao : Option Addr) (n cap : Nat) : Sem.run Try.prog (binOp .eql 22 (.slice ao n cap) (.slice none 0 0)) w = .ok (.bool ao.isNone) w := by
  have h := run_equal_slice_nil (P := Try.prog) w 22 5 ao n cap Try.underlying22
  simp [binOp, h]

theorem clone_any {v : Value} {xs : List Nat} {w : World} (hv : Bs w v xs) (hl : xs.length ≤ 140737488355328) :
    Calls Try.prog 54 #[v] w fun e w' => ∃ v', e = .returned v' ∧ Ow w' w.heap.size v' xs ∧ Below w.heap.size w w' := by
  obtain ⟨i0, hi, hz0, hz1, hz2⟩ := info_parts u8info
  have HV : Hid (Bs w v xs) := hv
  obtain ⟨ao, cap, rfl, hnone, _⟩ := hv.gen
  clear hv
  cases ao with
  | none =>
    obtain ⟨h0, rfl⟩ := hnone rfl
    have := List.eq_nil_of_length_eq_zero h0
    subst this
    clear hnone
    simp only [List.length_nil]
    have hn0 := nil_eql w none 0 0
    go_enter Try.func54, Try.ntmps54
    go_wp2
    go_ret
    exact ⟨_, rfl, Ow.nil _ _, Below.refl _ _⟩
  | some ad =>
    obtain ⟨n, hn⟩ : ∃ n, xs.length = n := ⟨_, rfl⟩
    have HN : Hid (xs.length = n) := hn
    have hlit : (w.alloc (.cells #[] 5)).ownsRow w.heap.size 5 1 (.slice (some ⟨w.heap.size, 0, none⟩) 0 0) 0 [] := by
      have := World.ownsRow_lit (base := w.heap.size) (size := 1) (e := 5) w #[] 0 (Nat.le_refl _) (by decide) rfl
      simpa using this
    have hb0 : Below w.heap.size w (w.alloc (.cells #[] 5)) := (Below.refl _ _).alloc (Nat.le_refl _) _
    rw [hn] at hl ⊢
    clear hn hnone
    have hn0 := nil_eql w (some ad) n cap
    go_enter Try.func54, Try.ntmps54
    go_wp2_with (at_builtin; refine wpList_append_own _ rfl _ _ 22 rfl w.heap.size 5 i0 (.int .u8 0) 1 1 Try.underlying22 hi hz0 hz1 hz2 rfl (by decide) _ _ _ rfl hlit ad n cap (u8s xs) rfl (by simp [u8s]; exact HN.out) ((HV.out.below hb0).cells ad rfl) (u8s_one xs) (by unfold maxLen; omega) (by omega) (by simp) ?_; intro v' w2 hown' hgrow' hnil')
    go_ret
    refine ⟨_, rfl, ⟨HV.out.1, HV.out.2.1, ?_⟩, ?_⟩
    · rw [HN.out]; simpa using hown'
    · exact hb0.grown hgrow' (by simp) (fun k hk => by have hk' : some w.heap.size = some k := hk; cases hk'; exact Nat.le_refl _)

theorem Ow.slice {w : World} {base : Nat} {v : Value} {zs : List Nat} (h : Ow w base v zs) : ∃ ao n cap, v = .slice ao n cap := by
  obtain ⟨ao, cap, e, _⟩ := h.bs.gen; exact ⟨_, _, _, e⟩

/-- The reader at block r: what is left to read, and its fault; og: the block of the bytes, if there is one. -/
structure Rd (w : World) (r : Nat) (og : Option Nat) (zs : List Nat) (f : Int) : Prop where
  ex : ∃ rest, w.heap[r]? = some (.cells #[rest, .int .i64 f] 84 (0, 0)) ∧ Bs w rest zs ∧ (∀ k, rest.ownBlock = some k → og = some k)
  og : ∀ g, og = some g → g ≠ r ∧ g < w.heap.size
  small : zs.length ≤ 140737488355328

theorem Rd.lt {w : World} {r : Nat} {og : Option Nat} {zs : List Nat} {f : Int} (h : Rd w r og zs f) : r < w.heap.size := by
  obtain ⟨rest, hh, _⟩ := h.ex; exact lt_of_block hh
theorem Rd.but {R : Nat → Prop} {w w' : World} {r : Nat} {og : Option Nat} {zs : List Nat} {f : Int} (h : Rd w r og zs f) (k : But R w w') (hr : ¬ R r) (hg : ∀ g, og = some g → ¬ R g) : Rd w' r og zs f := by
  have hl := h.lt
  obtain ⟨⟨rest, hh, hb, ho⟩, h2, h3⟩ := h
  refine ⟨⟨rest, (k.block r hl hr).trans hh, hb.but k (fun j e _ => hg j (ho j e)), ho⟩, fun g e => ⟨(h2 g e).1, Nat.lt_of_lt_of_le (h2 g e).2 k.size⟩, h3⟩
theorem Rd.below {w w' : World} {r : Nat} {og : Option Nat} {zs : List Nat} {f : Int} (h : Rd w r og zs f) (k : Below w.heap.size w w') : Rd w' r og zs f :=
  h.but (R := fun _ => False) (But.of k) (fun h => h) (fun _ _ h => h)

theorem reader_any {v : Value} {xs : List Nat} {w : World} (hv : Bs w v xs) (hl : xs.length ≤ 140737488355328) :
    Calls Try.prog 40 #[v] w fun e w' => ∃ r og, e = .returned (.pointer (some ⟨r, 0, none⟩)) ∧ w.heap.size ≤ r ∧ (∀ g, og = some g → w.heap.size ≤ g) ∧ Rd w' r og xs 0 ∧ Below w.heap.size w w' := by
  have HC : Hid (Calls Try.prog 54 #[v] w fun e w' => ∃ v', e = .returned v' ∧ Ow w' w.heap.size v' xs ∧ Below w.heap.size w w') := clone_any hv hl
  clear hv
  go_enter Try.func40, Try.ntmps40
  go_wp2_with (go_at_call 54; refine Calls.mono HC.out ?_; rintro e w1 ⟨v', rfl, hown, hbel⟩; obtain ⟨ao, n, cap, rfl⟩ := hown.slice)
  go_ret
  have h1 := hown.ge
  have hs := hbel.size
  refine ⟨w1.heap.size, (Value.slice ao n cap).ownBlock, rfl, hs, fun g e => (h1 g e).1, ⟨⟨_, heap_alloc_new _ _, (hown.alloc _).bs, fun k e => e⟩, ?_, hl⟩, hbel.alloc hs _⟩
  intro g e
  have := (h1 g e).2
  simp; omega

theorem ptr_eql (w : World) (p : Option Addr) : Sem.run Try.prog (binOp .eql 72 (.pointer p) (.pointer none)) w = .ok (.bool p.isNone) w := by
  have h := run_equal_pointer_nil (P := Try.prog) w 72 p (by kernel_rfl)
  simp [binOp, h]

theorem Rd.cells {w : World} {r : Nat} {og : Option Nat} {zs : List Nat} {f : Int} (h : Rd w r og zs f) : ∃ ao cap, w.cell? ⟨r, 0, none⟩ = some (.slice ao zs.length cap) ∧ w.cell? ⟨r, 1, none⟩ = some (.int .i64 f) ∧
    w.frozen? ⟨r, 0, none⟩ = false ∧ w.frozen? ⟨r, 1, none⟩ = false ∧ Bs w (.slice ao zs.length cap) zs ∧ (∀ k, (Value.slice ao zs.length cap).ownBlock = some k → og = some k) := by
  obtain ⟨⟨rest, hh, hb, ho⟩, _, _⟩ := h
  obtain ⟨ao, cap, rfl, _⟩ := hb.gen
  refine ⟨ao, cap, ?_, ?_, frozen_of_row w r 0 _ _ hh, frozen_of_row w r 1 _ _ hh, hb, ho⟩
  · rw [cell_of_row w r 0 _ _ _ hh]; rfl
  · rw [cell_of_row w r 1 _ _ _ hh]; rfl

theorem fault_any {w : World} {r : Nat} {og : Option Nat} {zs : List Nat} {f : Int} (h : Rd w r og zs f) :
    Calls Try.prog 63 #[.pointer (some ⟨r, 0, none⟩)] w fun e w' => e = .returned (.int .i64 f) ∧ w' = w := by
  obtain ⟨ao, cap, c0, c1, _⟩ := h.cells
  have hp := ptr_eql w (some ⟨r, 0, none⟩)
  go_enter Try.func63, Try.ntmps63
  go_wp2
  go_ret
  exact ⟨rfl, rfl⟩
theorem fault_nil (w : World) : Calls Try.prog 63 #[.pointer none] w fun e w' => e = .returned (.int .i64 5) ∧ w' = w := by
  have hp := ptr_eql w none
  go_enter Try.func63, Try.ntmps63
  go_wp2
  go_ret
  exact ⟨rfl, rfl⟩
end Go.Proofs.Ytdlalpklopnpjaa
