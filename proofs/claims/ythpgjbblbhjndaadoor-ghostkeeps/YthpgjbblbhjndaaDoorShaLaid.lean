/- What the program's two tables hold, by the row's condition. -/
import Derived.Test.YthpgjbblbhjndaaDoorShaOf
import Derived.Test.YthpgjbblbhjndaaDoorRows
import Derived.Test.YthpgjbblbhjndaaDoorTie
import Derived.Test.YthpgjbblbhjndaaDoorCards
import Derived.ProofKit
import Derived.LaidMore
import Derived.OpenShut
import Derived.SevenTiedAt
namespace Go.Proofs.YthpgjbblbhjndaaDoor
open Go.ChangeShapes Go.WideShapes Go.ChangeAt Go.RowKit

theorem Tryd.own : ownKnob Tryd.prog.godebug = none := by kernel_rfl
theorem Tryd.laidOut : laidOutB Tryd.prog = true := by kernel_rfl
theorem gStart : Tryd.prog.globalNamed ((Rows.ghostClashesRow.laid.map Prod.fst).getD 0 "") = some 0 := by kernel_rfl
theorem gWords : Tryd.prog.globalNamed ((Rows.ghostClashesRow.laid.map Prod.fst).getD 1 "") = some 2 := by kernel_rfl
theorem tStart : (Tryd.prog.globals[0]?).map (·.type) = some 75 := by kernel_rfl
theorem tWords : (Tryd.prog.globals[2]?).map (·.type) = some 73 := by kernel_rfl
theorem cells42 : Tryd.prog.cellsOf 43 = 1 := by kernel_rfl

theorem row_of_trod {H : Type} {enc : TypeId × Value → H} {W : World} {base : Nat} {sp : Nat → Bool} {held : Bool} {n t m : Nat} (ht : Tryd.prog.underlying t = some (.array n 43)) {cs : Array Value} {zs : List Int} {ps : List MemPlace}
    (h : DataW.trod enc Tryd.prog W base sp held m t cs.toList = some (.agg (zs.map fun z => .lit (.int .u32 z)), ps)) : ∀ i, i < n → cs[i]? = some (.int .u32 (zs.getD i 0)) := by
  obtain ⟨xs, m1, rfl, hx1, hlen, hn3, hel⟩ := DataW.trod_array ht h
  intro i hi
  have h0 := hel i hi
  simp only [Prod.mk.injEq, DataW.agg.injEq] at hx1
  obtain ⟨x, hx⟩ : ∃ x, xs[i]? = some x := ⟨_, List.getElem?_eq_getElem (by omega)⟩
  rw [hx] at h0
  obtain ⟨k, e1, e2, _⟩ := DataW.trod_int Tryd.underlying43 h0
  have e3 := congrArg (·[i]?) hx1.1
  simp only [List.getElem?_map, hx, Option.map_some, e2] at e3
  have hz : zs[i]? = some k := by
    cases hq : zs[i]? with
    | none => rw [hq] at e3; simp at e3
    | some y => rw [hq] at e3; simp at e3; rw [e3]
  have hg : zs.getD i 0 = k := by simp [List.getD, hz]
  rw [hg]
  rw [cells42, Nat.mul_one] at e1
  have e4 : (cs.toList.drop i)[0]? = some (.int .u32 k) := by
    have := congrArg (·[0]?) e1
    simpa using this
  simpa using e4

abbrev laidTwo : List (String × DataW Unit) := Rows.ghostClashesRow.laid
def startZ : List Int := hws.map fun x => (nt x : Int)
def wordsZ : List Int := kws.map fun x => (nt x : Int)
theorem startD : (Rows.laid_thimble_sha_start : DataW Unit) = .agg (startZ.map fun z => .lit (.int .u32 z)) := by rfl
theorem wordsD : (Rows.laid_thimble_sha_roundWords : DataW Unit) = .agg (wordsZ.map fun z => .lit (.int .u32 z)) := by rfl

theorem of_laid {W : World} (h : laidMetH Tryd.prog laidTwo W) : Hw W ∧ Kw W := by
  rw [MakeChecks.laidMetH_plain _ _ _ (by kernel_rfl)] at h
  obtain ⟨ps, ⟨g0, t0, cs0, f0, p0, q0, hg0, ht0, hv0, hd0, ⟨g1, t1, cs1, f1, p1, q1, hg1, ht1, hv1, hd1, _, _⟩, _⟩, _, _⟩ := h
  obtain rfl := Option.some.inj (gStart.symm.trans hg0)
  obtain rfl := Option.some.inj (gWords.symm.trans hg1)
  obtain rfl := Option.some.inj (tStart.symm.trans ht0)
  obtain rfl := Option.some.inj (tWords.symm.trans ht1)
  rw [startD] at hd0
  rw [wordsD] at hd1
  have c0 := row_of_trod Tryd.underlying75 hd0
  have c1 := row_of_trod Tryd.underlying73 hd1
  refine ⟨fun i hi => ?_, fun i hi => ?_⟩
  · have h := World.var?_cell hg0 hv0 i
    rw [c0 i hi] at h
    have e : startZ.getD i 0 = (nt (hws.getD i 0) : Int) := by
      have hl : i < hws.length := hi
      simp [startZ, List.getD, hl]
    rw [e] at h; exact h
  · have h := World.var?_cell hg1 hv1 i
    rw [c1 i hi] at h
    have e : wordsZ.getD i 0 = (nt (kws.getD i 0) : Int) := by
      have hl : i < kws.length := hi
      simp [wordsZ, List.getD, hl]
    rw [e] at h; exact h
theorem door_met (os : Os) (args : Array Value) : laidMetH Tryd.prog laidTwo ((World.doorLaid Tryd.prog 19 os).forCall (fun _ _ => 0) ⟨#[], args, []⟩).memory :=
  laidMetH_of_parts3 (fuel := 8) (laidMet_of_run' 8 (by kernel_rfl) (by kernel_rfl)) (by kernel_rfl) (by kernel_rfl)
end Go.Proofs.YthpgjbblbhjndaaDoor
