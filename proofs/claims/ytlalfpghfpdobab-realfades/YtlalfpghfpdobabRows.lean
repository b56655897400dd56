/-
  No cell of these rows narrows 'for every input' (looked for: loops, veiled, ifaces, maps, wideKeys, modest, calm, conditions, laid).
  DERIVED. THE GIVEN ROWS OF THIS SEAT. 3 by the template 'for every input the law returns true; each argument reads behind the call as it read before'; 0 by the template 'total and deterministic' (their statements: YtlalfpghfpdobabTotals.lean).
  GIVEN WITH THE SEED: the statements are not yours to turn. If you find one false, say at which input.
  Laid BY PROGRAM, IN A SANDBOX (cutbox-rows.mjs): the forced cells as the released guide's own fill.sh prints them over the translation 7497414641770b6c… (all of the seat's roots in one cut). By AI agents, Wed Nov 11 2026. No macro, syntax, notation, axiom, sorry.
-/
import Derived.Test.YtlalfpghfpdobabChecked
import GoSem.Claim
import GoSem.ClaimJoined
import GoSem.ClaimMapViews
import Derived.JoinedTies
import Derived.KernelRfl
namespace Go.Proofs.Ytlalfpghfpdobab
/- THE CELL 'sum', in the pinned program and in every row, IS THE sha256 OF THE DUMP (.gsa) THAT YtlalfpghfpdobabProg.lean LOADS. Nothing in Lean hashes anything: it is a label: what it is worth is what the hold of that sum in a sandbox is worth. -/
noncomputable def Try.pinned : Pinned := { name := "ytlalfpghfpdobab", sum := "7497414641770b6c24172bfcdbce8232029433ff98958331421406a37b347b2f", checked := Try.checked }
namespace Rows
def none {H : Type} : Left H := { results := [], args := [] }

/-- 'thimblelaw01.RealFades': WHATEVER THE INPUT: true; the input reads as it did. -/
def realFadesSpec : ChangeSpec := { name := "realFades", fn := fun _ => fun
  | [d1, d2, d3] => { results := [.lit (.bool true)], args := [d1, d2, d3] }
  | _ => none }
def realFadesRow : OpenClaim := { program := "ytlalfpghfpdobab", sum := "7497414641770b6c24172bfcdbce8232029433ff98958331421406a37b347b2f", func := "thimble/thimblelaw01.RealFades", spec := "realFades", inPlace := ["math.Float64bits", "math.Float64frombits"], apart := false }
def RealFadesSaid : Prop := realFadesRow.holds Try.pinned (OpenSpec.ofChange realFadesSpec)

/-- ITS FALSE NEIGHBOUR: 'it returns false'. Refute it at one input. -/
def realFadesWrong : ChangeSpec := { name := "realFades", fn := fun _ => fun
  | [d1, d2, d3] => { results := [.lit (.bool false)], args := [d1, d2, d3] }
  | _ => none }
def RealFadesWrongFalsely : Prop := realFadesRow.holds Try.pinned (OpenSpec.ofChange realFadesWrong)

/-- 'thimblelaw01.RealSteps': WHATEVER THE INPUT: true; the input reads as it did. -/
def realStepsSpec : ChangeSpec := { name := "realSteps", fn := fun _ => fun
  | [d1, d2, d3] => { results := [.lit (.bool true)], args := [d1, d2, d3] }
  | _ => none }
def realStepsRow : OpenClaim := { program := "ytlalfpghfpdobab", sum := "7497414641770b6c24172bfcdbce8232029433ff98958331421406a37b347b2f", func := "thimble/thimblelaw01.RealSteps", spec := "realSteps", inPlace := ["math.Float64bits", "math.Float64frombits"], apart := false }
def RealStepsSaid : Prop := realStepsRow.holds Try.pinned (OpenSpec.ofChange realStepsSpec)

/-- ITS FALSE NEIGHBOUR: 'it returns false'. Refute it at one input. -/
def realStepsWrong : ChangeSpec := { name := "realSteps", fn := fun _ => fun
  | [d1, d2, d3] => { results := [.lit (.bool false)], args := [d1, d2, d3] }
  | _ => none }
def RealStepsWrongFalsely : Prop := realStepsRow.holds Try.pinned (OpenSpec.ofChange realStepsWrong)

/-- 'thimblelaw01.RealClasses': WHATEVER THE INPUT: true; the input reads as it did. -/
def realClassesSpec : ChangeSpec := { name := "realClasses", fn := fun _ => fun
  | [d1, d2] => { results := [.lit (.bool true)], args := [d1, d2] }
  | _ => none }
def realClassesRow : OpenClaim := { program := "ytlalfpghfpdobab", sum := "7497414641770b6c24172bfcdbce8232029433ff98958331421406a37b347b2f", func := "thimble/thimblelaw01.RealClasses", spec := "realClasses", inPlace := ["math.Float64bits"], apart := false }
def RealClassesSaid : Prop := realClassesRow.holds Try.pinned (OpenSpec.ofChange realClassesSpec)

/-- ITS FALSE NEIGHBOUR: 'it returns false'. Refute it at one input. -/
def realClassesWrong : ChangeSpec := { name := "realClasses", fn := fun _ => fun
  | [d1, d2] => { results := [.lit (.bool false)], args := [d1, d2] }
  | _ => none }
def RealClassesWrongFalsely : Prop := realClassesRow.holds Try.pinned (OpenSpec.ofChange realClassesWrong)

/- THE SECOND FORM. 'bulk': how many values and letters a reading holds, each counted each time it is reached (what is shared counts as often as it is met; a slice's spare places count too). A statement '..UptoSaid' is the law's where the arguments, and the package variables that the reading takes, are together of bulk at most 1048576: NARROWER than '..Said'. Prove '..Said' where nothing that the law and all that it calls make is longer than what came in: it says more and counts as full. Else prove '..UptoSaid'. A law counts once. -/
mutual
def uptoBulk {H : Type} : DataW H → Nat
  | .lit (.string bytes) => bytes.length + 1
  | .lit _ => 1
  | .nil => 1
  | .ptr d => uptoBulk d + 1
  | .slice elems spare => uptoBulkAll elems + uptoBulkAll spare + 1
  | .agg parts => uptoBulkAll parts + 1
  | .iface _ d => uptoBulk d + 1
  | .map entries => uptoBulkEntries entries + 1
  | .held _ => 1
def uptoBulkAll {H : Type} : List (DataW H) → Nat
  | [] => 0
  | d :: r => uptoBulk d + uptoBulkAll r
def uptoBulkEntries {H : Type} : List (Lit × DataW H) → Nat
  | [] => 0
  | x :: r => uptoBulkEntry x + uptoBulkEntries r
def uptoBulkEntry {H : Type} : Lit × DataW H → Nat
  | (.string bytes, d) => bytes.length + uptoBulk d + 1
  | (_, d) => uptoBulk d + 1
 end
def uptoSmall : (H : Type) → List (DataW H) → Bool := fun _ ds => decide (uptoBulkAll ds ≤ 1048576)
def OpenSpec.upto (s : _root_.Go.ChangeSpec) : _root_.Go.OpenSpec := { _root_.Go.OpenSpec.ofChange s with cond := some uptoSmall }

/-- 'thimblelaw01.RealFades', WHERE WHAT IT READS IS OF BULK AT MOST 1048576: true; the input reads as it did. -/
def realFadesUptoRow : OpenClaim := { program := "ytlalfpghfpdobab", sum := "7497414641770b6c24172bfcdbce8232029433ff98958331421406a37b347b2f", func := "thimble/thimblelaw01.RealFades", spec := "realFades", inPlace := ["math.Float64bits", "math.Float64frombits"], apart := false, narrowed := true }
def RealFadesUptoSaid : Prop := realFadesUptoRow.holds Try.pinned (OpenSpec.upto realFadesSpec)

/-- 'thimblelaw01.RealSteps', WHERE WHAT IT READS IS OF BULK AT MOST 1048576: true; the input reads as it did. -/
def realStepsUptoRow : OpenClaim := { program := "ytlalfpghfpdobab", sum := "7497414641770b6c24172bfcdbce8232029433ff98958331421406a37b347b2f", func := "thimble/thimblelaw01.RealSteps", spec := "realSteps", inPlace := ["math.Float64bits", "math.Float64frombits"], apart := false, narrowed := true }
def RealStepsUptoSaid : Prop := realStepsUptoRow.holds Try.pinned (OpenSpec.upto realStepsSpec)

/-- 'thimblelaw01.RealClasses', WHERE WHAT IT READS IS OF BULK AT MOST 1048576: true; the input reads as it did. -/
def realClassesUptoRow : OpenClaim := { program := "ytlalfpghfpdobab", sum := "7497414641770b6c24172bfcdbce8232029433ff98958331421406a37b347b2f", func := "thimble/thimblelaw01.RealClasses", spec := "realClasses", inPlace := ["math.Float64bits"], apart := false, narrowed := true }
def RealClassesUptoSaid : Prop := realClassesUptoRow.holds Try.pinned (OpenSpec.upto realClassesSpec)

end Rows
end Go.Proofs.Ytlalfpghfpdobab
