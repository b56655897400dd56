/- The program's slots and the reference's, side by side. -/
import Derived.Test.YtehajgfjdmhdpaaSpRefMore
import Derived.Test.YtehajgfjdmhdpaaSpView
import Derived.Test.YtehajgfjdmhdpaaSpOnce
namespace Go.Proofs.Ytehajgfjdmhdpaa
open Go.RowKit

/-- Both sides' slots: the program's S, the reference's T. -/
structure Tw (w wr : World) (gs gm gr cap n : Nat) (S T : Sl) : Prop where
  sa : Sa w wr gs gm n S
  sr : SrM wr gr cap n T
  nr : w.heap.size ≤ gr
  ns : gr ≠ gs
  nm : gr ≠ gm
section
variable {w wr w' : World} {gs gm gr cap n gr' cap' : Nat} {S T S' T' : Sl} {p : Int} {i : Nat}
theorem Tw.grow (h : Tw w wr gs gm gr cap n S T) (g : Grow wr w') : Tw w w' gs gm gr cap n S T := ⟨h.sa.then g, h.sr.but g (fun h => h), h.nr, h.ns, h.nm⟩
theorem Tw.prog (h : Tw w wr gs gm gr cap n S T) (hs : Sa w w' gs gm n S') (b : But (· = gm) wr w') : Tw w w' gs gm gr cap n S' T := ⟨hs, h.sr.but b h.nm, h.nr, h.ns, h.nm⟩
theorem Tw.ref (h : Tw w wr gs gm gr cap n S T) (hm : SrM w' gr cap n T') (b : But (· = gr) wr w') : Tw w w' gs gm gr cap n S T' := ⟨h.sa.but b (fun e => h.ns e.symm) (fun e => h.nm e.symm) (fun b e => by have := h.nr; omega), hm, h.nr, h.ns, h.nm⟩
theorem Tw.new (h : Sa w wr gs gm n S) (hr : SrM w' gr cap n T) (g : Grow wr w') (hn : wr.heap.size ≤ gr) : Tw w w' gs gm gr cap n S T := ⟨h.then g, hr, Nat.le_trans h.grow.size hn, by have := h.lt.1; omega, by have := h.lt.2; omega⟩
theorem rofI_two (S : Sl) (p : Int) : (ofB S p = true ∧ rofI S p = (ofI S p : Int) ∧ S[ofI S p]? = some (some (p, ofX S p))) ∨ (ofB S p = false ∧ rofI S p = -1 ∧ ofI S p = 0 ∧ ofX S p = ⟨0, 0, 0⟩) := by
  unfold ofB rofI ofI ofX
  cases e : whoS S p with
  | none => exact .inr ⟨rfl, rfl, rfl, rfl⟩
  | some i =>
    obtain ⟨x, hx⟩ := whoS_some e
    refine .inl ⟨rfl, rfl, ?_⟩
    dsimp only [Option.getD_some]
    rw [hx]
theorem free_two (S : Sl) (p : Int) : (∃ i : Nat, rofI S p = (i : Int) ∧ i < S.length ∧ freeS S p = S.set i none) ∨ (rofI S p = -1 ∧ freeS S p = S) := by
  unfold rofI freeS
  cases e : whoS S p with
  | none => exact .inr ⟨rfl, rfl⟩
  | some i =>
    obtain ⟨x, hx⟩ := whoS_some e
    exact .inl ⟨i, rfl, (List.getElem?_eq_some_iff.1 hx).1, rfl⟩
theorem give_two (S : Sl) (p : Int) : (∃ i : Nat, rgivI S p = (i : Int) ∧ givI S p = (i : Int) ∧ givE S p = 0) ∨ (rgivI S p = -1 ∧ givI S p = 0 ∧ givE S p = 11) := by
  unfold rgivI givI givE
  cases e : slotS S p with
  | none => exact .inr ⟨rfl, rfl, rfl⟩
  | some i => exact .inl ⟨i, rfl, rfl, rfl⟩
theorem SrM.ex (h : SrM w gr cap n S) {i : Nat} {p : Int} {x : En} (hi : S[i]? = some (some (p, x))) : ∀ j u, (ecells x)[j]? = some u → w.cell? ((⟨gr, i * 5 + 2, none⟩ : Addr).add j) = some u := fun j u hu => by
  rw [addr_add, show i * 5 + 2 + j = i * 5 + (j + 1 + 1) by omega]
  exact h.cell hi hu
end
end Go.Proofs.Ytehajgfjdmhdpaa
