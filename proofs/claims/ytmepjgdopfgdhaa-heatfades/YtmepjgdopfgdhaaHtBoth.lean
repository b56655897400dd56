/- Both heats in one memory. -/
import Derived.Test.YtmepjgdopfgdhaaHtView
namespace Go.Proofs.Ytmepjgdopfgdhaa
open Go.RowKit

structure Hx (w0 w : World) (gh gm gx half now : Nat) (T : Tb) (m : Nat) (L : List Sp) : Prop where
  h : HtM w gh gm half now T
  x : ∃ v, RhM w gx v half m L ∧ ∀ k, v.ownBlock = some k → k ≠ gh ∧ k ≠ gm ∧ w0.heap.size ≤ k
  ne : gx ≠ gh ∧ gx ≠ gm
  new : w0.heap.size ≤ gh ∧ w0.heap.size ≤ gm ∧ w0.heap.size ≤ gx
  grow : Grow w0 w
section
variable {w0 w w' : World} {gh gm gx half now m : Nat} {T : Tb} {L : List Sp} {K : Int} {y : Nat}
theorem Hx.then (h : Hx w0 w gh gm gx half now T m L) (k : Grow w w') : Hx w0 w' gh gm gx half now T m L := by
  obtain ⟨v, h1, h2⟩ := h.x
  exact ⟨h.h.grow k, ⟨v, h1.grow k, h2⟩, h.ne, h.new, h.grow.trans k⟩
theorem Hx.ht {n' : Nat} {T' : Tb} (h : Hx w0 w gh gm gx half now T m L) (k : HtTo w gh gm half n' T' w') : Hx w0 w' gh gm gx half n' T' m L := by
  obtain ⟨v, h1, h2⟩ := h.x
  exact ⟨k.ht, ⟨v, h1.but k.but (fun e => e.elim h.ne.1 h.ne.2) (fun j hj e => e.elim (h2 j hj).1 (h2 j hj).2.1), h2⟩, h.ne, h.new, h.grow.then k.but (fun i hi e => by rcases e with e | e <;> (have := h.new; omega))⟩
theorem Hx.rh {n' : Nat} {L' : List Sp} (h : Hx w0 w gh gm gx half now T m L) (k : RhTo w gx half n' L' w') : Hx w0 w' gh gm gx half now T n' L' := by
  obtain ⟨v, h1, h2⟩ := k.ex
  have hl := h.h.lt
  exact ⟨h.h.but k.but (fun e => h.ne.1 e.symm) (fun e => h.ne.2 e.symm), ⟨v, h1, fun j hj => by have := h2 j hj; have := h.grow.size; omega⟩, h.ne, h.new, h.grow.then k.but (fun i hi e => by have := h.new; omega)⟩
theorem hx_touch (h : Hx w0 w gh gm gx half now T m L) (hK : i64 K) (hn : now < 1000000) : Calls Try.prog 13 #[.pointer (some ⟨gh, 0, none⟩), .int .i64 K, .float .f64 y] w fun e w' => e = .returned (.tuple #[]) ∧ Hx w0 w' gh gm gx half (now + 1) (ttouch half now T K y) m L ∧ But (fun b => b = gh ∨ b = gm) w w' :=
  (touch_any h.h hK hn).mono (fun _ _ e => ⟨e.1, h.ht e.2, e.2.but⟩)
theorem hx_drop (h : Hx w0 w gh gm gx half now T m L) (hK : i64 K) : Calls Try.prog 11 #[.pointer (some ⟨gh, 0, none⟩), .int .i64 K] w fun e w' => e = .returned (.tuple #[]) ∧ Hx w0 w' gh gm gx half now (tdrop T K) m L ∧ But (fun b => b = gh ∨ b = gm) w w' :=
  (drop_any h.h hK).mono (fun _ _ e => ⟨e.1, h.ht e.2, e.2.but⟩)
theorem hx_rtouch (h : Hx w0 w gh gm gx half now T m L) (hK : i64 K) (hn : m < 1000000) : Calls Try.prog 14 #[.pointer (some ⟨gx, 0, none⟩), .int .i64 K, .float .f64 y] w fun e w' => e = .returned (.tuple #[]) ∧ Hx w0 w' gh gm gx half now T (m + 1) (touched half m L K y) ∧ But (· = gx) w w' := by
  obtain ⟨v, h1, h2⟩ := h.x
  exact (rtouch_any h1 hK hn).mono (fun _ _ e => ⟨e.1, h.rh e.2, e.2.but⟩)
theorem hx_rdrop (h : Hx w0 w gh gm gx half now T m L) : Calls Try.prog 12 #[.pointer (some ⟨gx, 0, none⟩), .int .i64 K] w fun e w' => e = .returned (.tuple #[]) ∧ Hx w0 w' gh gm gx half now T m (L.filter (fun e => !(e.1 == K))) ∧ But (· = gx) w w' := by
  obtain ⟨v, h1, h2⟩ := h.x
  exact (rdrop_any h1 K).mono (fun _ _ e => ⟨e.1, h.rh e.2, e.2.but⟩)
theorem hx_of (h : Hx w0 w gh gm gx half now T m L) (hK : i64 K) : Calls Try.prog 16 #[.pointer (some ⟨gh, 0, none⟩), .int .i64 K] w fun e w' => e = .returned (.float .f64 (hof half now T K)) ∧ Grow w w' := of_any h.h hK
theorem hx_rof (h : Hx w0 w gh gm gx half now T m L) : Calls Try.prog 17 #[.pointer (some ⟨gx, 0, none⟩), .int .i64 K] w fun e w' => e = .returned (.float .f64 (hof half m (look L) K)) ∧ Grow w w' := by
  obtain ⟨v, h1, h2⟩ := h.x
  exact rof_any h1 K
theorem Hx.tok (h : Hx w0 w gh gm gx half now T m L) : Tok m (look L) := by
  obtain ⟨v, h1, h2⟩ := h.x
  exact h1.tok
theorem Hx.rofs (h : Hx w0 w gh gm gx half now T m L) : Ofs w 17 (.pointer (some ⟨gx, 0, none⟩)) (hof half m (look L)) := by
  obtain ⟨v, h1, h2⟩ := h.x
  exact rofs_any h1
/-- Both begin. -/
theorem Hx.begin {g : Nat} (hg : g = w0.heap.size) (h : HtM w (g + 1) g half 0 tnone) (k : Grow w0 w) : Hx w0 (w.alloc (.cells #[.int .i64 (half : Int), .int .i64 0, .slice none 0 0] 31)) (g + 1) g w.heap.size half 0 tnone 0 [] := by
  have hl := h.lt
  have ka : Grow w (w.alloc (.cells #[.int .i64 (half : Int), .int .i64 0, .slice none 0 0] 31)) := (But.refl _ w).alloc _
  refine ⟨h.grow ka, ⟨.slice none 0 0, ⟨Blk.new (L := [.int .i64 (half : Int), .int .i64 0, .slice none 0 0]) rfl, RowOf.nil _ _ _ _, h.h1, h.h2, by omega, Nat.le_refl _, fun e he => absurd he List.not_mem_nil⟩, fun k hk => by cases hk⟩, by omega, ?_, k.trans ka⟩
  have := k.size
  omega
end
theorem look_touched (half now : Nat) (L : List Sp) (K : Int) (y : Nat) : look (touched half now L K y) = ttouch half now (look L) K y := by
  funext k
  unfold touched ttouch
  exact look_put L K k _ _
theorem look_dropped (L : List Sp) (K : Int) : look (L.filter (fun e => !(e.1 == K))) = tdrop (look L) K := by
  funext k
  exact look_drop L K k
/-- The table behind so many touches. -/
def tch (half : Nat) (A : Nat → HA) : Nat → List Sp
  | 0 => []
  | i + 1 => touched half i (tch half A i) (A i).key (A i).y
end Go.Proofs.Ytmepjgdopfgdhaa
