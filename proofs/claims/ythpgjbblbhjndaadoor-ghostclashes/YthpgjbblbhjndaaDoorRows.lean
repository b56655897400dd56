/-
  NARROWER THAN 'FOR EVERY INPUT', by the rows' own cells (each row's printed sentence says how): GhostClashes: laid · GhostForges: laid · GhostTwice: laid · GhostKeeps: laid · GhostHonest: laid · GhostNil: laid.
  DERIVED. THE GIVEN ROWS OF THIS SEAT. 6 by the template 'for every input the law returns true; each argument reads behind the call as it read before'; 0 by the template 'total and deterministic' (their statements: YthpgjbblbhjndaaDoorTotals.lean).
  GIVEN WITH THE SEED: the statements are not yours to turn. If you find one false, say at which input.
  Laid BY PROGRAM, IN A SANDBOX (cutbox-rows.mjs): the forced cells as the released guide's own fill.sh prints them over the translation e28b97a2a73051b5… (all of the seat's roots in one cut). By AI agents, Wed Nov 11 2026. No macro, syntax, notation, axiom, sorry.
-/
import Derived.Test.YthpgjbblbhjndaaDoorChecked
import GoSem.Claim
import GoSem.ClaimJoined
import GoSem.ClaimMapViews
import Derived.JoinedTies
import Derived.KernelRfl
namespace Go.Proofs.YthpgjbblbhjndaaDoor
/- THE CELL 'sum', in the pinned program and in every row, IS THE sha256 OF THE DUMP (.gsa) THAT YthpgjbblbhjndaaDoorProg.lean LOADS. Nothing in Lean hashes anything: it is a label: what it is worth is what the hold of that sum in a sandbox is worth. -/
noncomputable def Tryd.pinned : Pinned := { name := "ythpgjbblbhjndaadoor", sum := "e28b97a2a73051b5eec36d0d9feeb060917b88b4548086f5f17835e5ab93cea6", checked := Tryd.checked }
namespace Rows
def none {H : Type} : Left H := { results := [], args := [] }

/- WHAT THE LISTED PACKAGE-LEVEL VARIABLES READ AS WHEN THE CALL BEGINS. Each datum BY PROGRAM (the guide's laid-datum.mjs) off the statement by which the dump's own 'gosem.cut.vars' lays the variable. In a bare row this is a premise. The card (YthpgjbblbhjndaaDoorCards.lean) ties it to the program's text. -/
def laid_thimble_sha_start {H : Type} : DataW H := .agg [.lit (.int .u32 1779033703), .lit (.int .u32 3144134277), .lit (.int .u32 1013904242), .lit (.int .u32 2773480762), .lit (.int .u32 1359893119), .lit (.int .u32 2600822924), .lit (.int .u32 528734635), .lit (.int .u32 1541459225)]
def laid_thimble_sha_roundWords {H : Type} : DataW H := .agg [.lit (.int .u32 1116352408), .lit (.int .u32 1899447441), .lit (.int .u32 3049323471), .lit (.int .u32 3921009573), .lit (.int .u32 961987163), .lit (.int .u32 1508970993), .lit (.int .u32 2453635748), .lit (.int .u32 2870763221), .lit (.int .u32 3624381080), .lit (.int .u32 310598401), .lit (.int .u32 607225278), .lit (.int .u32 1426881987), .lit (.int .u32 1925078388), .lit (.int .u32 2162078206), .lit (.int .u32 2614888103), .lit (.int .u32 3248222580), .lit (.int .u32 3835390401), .lit (.int .u32 4022224774), .lit (.int .u32 264347078), .lit (.int .u32 604807628), .lit (.int .u32 770255983), .lit (.int .u32 1249150122), .lit (.int .u32 1555081692), .lit (.int .u32 1996064986), .lit (.int .u32 2554220882), .lit (.int .u32 2821834349), .lit (.int .u32 2952996808), .lit (.int .u32 3210313671), .lit (.int .u32 3336571891), .lit (.int .u32 3584528711), .lit (.int .u32 113926993), .lit (.int .u32 338241895), .lit (.int .u32 666307205), .lit (.int .u32 773529912), .lit (.int .u32 1294757372), .lit (.int .u32 1396182291), .lit (.int .u32 1695183700), .lit (.int .u32 1986661051), .lit (.int .u32 2177026350), .lit (.int .u32 2456956037), .lit (.int .u32 2730485921), .lit (.int .u32 2820302411), .lit (.int .u32 3259730800), .lit (.int .u32 3345764771), .lit (.int .u32 3516065817), .lit (.int .u32 3600352804), .lit (.int .u32 4094571909), .lit (.int .u32 275423344), .lit (.int .u32 430227734), .lit (.int .u32 506948616), .lit (.int .u32 659060556), .lit (.int .u32 883997877), .lit (.int .u32 958139571), .lit (.int .u32 1322822218), .lit (.int .u32 1537002063), .lit (.int .u32 1747873779), .lit (.int .u32 1955562222), .lit (.int .u32 2024104815), .lit (.int .u32 2227730452), .lit (.int .u32 2361852424), .lit (.int .u32 2428436474), .lit (.int .u32 2756734187), .lit (.int .u32 3204031479), .lit (.int .u32 3329325298)]

/-- 'thimblelaw09.GhostClashes': WHATEVER THE INPUT: true; the input reads as it did. -/
def ghostClashesSpec : ChangeSpec := { name := "ghostClashes", fn := fun _ => fun
  | [d] => { results := [.lit (.bool true)], args := [d] }
  | _ => none }
def ghostClashesRow : OpenClaim := { program := "ythpgjbblbhjndaadoor", sum := "e28b97a2a73051b5eec36d0d9feeb060917b88b4548086f5f17835e5ab93cea6", func := "thimble/thimblelaw09.GhostClashes", spec := "ghostClashes", inPlace := ["internal/bytealg.MakeNoZero"], named := ["thimble/sha.start", "thimble/sha.roundWords"], plainKeys := false, apart := false, laid := [("thimble/sha.start", laid_thimble_sha_start), ("thimble/sha.roundWords", laid_thimble_sha_roundWords)] }
def GhostClashesSaid : Prop := ghostClashesRow.holds Tryd.pinned (OpenSpec.ofChange ghostClashesSpec)

/-- ITS FALSE NEIGHBOUR: 'it returns false'. Refute it at one input. -/
def ghostClashesWrong : ChangeSpec := { name := "ghostClashes", fn := fun _ => fun
  | [d] => { results := [.lit (.bool false)], args := [d] }
  | _ => none }
def GhostClashesWrongFalsely : Prop := ghostClashesRow.holds Tryd.pinned (OpenSpec.ofChange ghostClashesWrong)

/-- 'thimblelaw09.GhostForges': WHATEVER THE INPUT: true; the input reads as it did. -/
def ghostForgesSpec : ChangeSpec := { name := "ghostForges", fn := fun _ => fun
  | [d] => { results := [.lit (.bool true)], args := [d] }
  | _ => none }
def ghostForgesRow : OpenClaim := { program := "ythpgjbblbhjndaadoor", sum := "e28b97a2a73051b5eec36d0d9feeb060917b88b4548086f5f17835e5ab93cea6", func := "thimble/thimblelaw09.GhostForges", spec := "ghostForges", inPlace := ["internal/bytealg.MakeNoZero"], named := ["thimble/sha.start", "thimble/sha.roundWords"], plainKeys := false, apart := false, laid := [("thimble/sha.start", laid_thimble_sha_start), ("thimble/sha.roundWords", laid_thimble_sha_roundWords)] }
def GhostForgesSaid : Prop := ghostForgesRow.holds Tryd.pinned (OpenSpec.ofChange ghostForgesSpec)

/-- ITS FALSE NEIGHBOUR: 'it returns false'. Refute it at one input. -/
def ghostForgesWrong : ChangeSpec := { name := "ghostForges", fn := fun _ => fun
  | [d] => { results := [.lit (.bool false)], args := [d] }
  | _ => none }
def GhostForgesWrongFalsely : Prop := ghostForgesRow.holds Tryd.pinned (OpenSpec.ofChange ghostForgesWrong)

/-- 'thimblelaw09.GhostTwice': WHATEVER THE INPUT: true; the input reads as it did. -/
def ghostTwiceSpec : ChangeSpec := { name := "ghostTwice", fn := fun _ => fun
  | [d] => { results := [.lit (.bool true)], args := [d] }
  | _ => none }
def ghostTwiceRow : OpenClaim := { program := "ythpgjbblbhjndaadoor", sum := "e28b97a2a73051b5eec36d0d9feeb060917b88b4548086f5f17835e5ab93cea6", func := "thimble/thimblelaw09.GhostTwice", spec := "ghostTwice", inPlace := ["internal/bytealg.MakeNoZero"], named := ["thimble/sha.start", "thimble/sha.roundWords"], plainKeys := false, apart := false, laid := [("thimble/sha.start", laid_thimble_sha_start), ("thimble/sha.roundWords", laid_thimble_sha_roundWords)] }
def GhostTwiceSaid : Prop := ghostTwiceRow.holds Tryd.pinned (OpenSpec.ofChange ghostTwiceSpec)

/-- ITS FALSE NEIGHBOUR: 'it returns false'. Refute it at one input. -/
def ghostTwiceWrong : ChangeSpec := { name := "ghostTwice", fn := fun _ => fun
  | [d] => { results := [.lit (.bool false)], args := [d] }
  | _ => none }
def GhostTwiceWrongFalsely : Prop := ghostTwiceRow.holds Tryd.pinned (OpenSpec.ofChange ghostTwiceWrong)

/-- 'thimblelaw09.GhostKeeps': WHATEVER THE INPUT: true; the input reads as it did. -/
def ghostKeepsSpec : ChangeSpec := { name := "ghostKeeps", fn := fun _ => fun
  | [d] => { results := [.lit (.bool true)], args := [d] }
  | _ => none }
def ghostKeepsRow : OpenClaim := { program := "ythpgjbblbhjndaadoor", sum := "e28b97a2a73051b5eec36d0d9feeb060917b88b4548086f5f17835e5ab93cea6", func := "thimble/thimblelaw09.GhostKeeps", spec := "ghostKeeps", inPlace := ["internal/bytealg.MakeNoZero"], named := ["thimble/sha.start", "thimble/sha.roundWords"], plainKeys := false, apart := false, laid := [("thimble/sha.start", laid_thimble_sha_start), ("thimble/sha.roundWords", laid_thimble_sha_roundWords)] }
def GhostKeepsSaid : Prop := ghostKeepsRow.holds Tryd.pinned (OpenSpec.ofChange ghostKeepsSpec)

/-- ITS FALSE NEIGHBOUR: 'it returns false'. Refute it at one input. -/
def ghostKeepsWrong : ChangeSpec := { name := "ghostKeeps", fn := fun _ => fun
  | [d] => { results := [.lit (.bool false)], args := [d] }
  | _ => none }
def GhostKeepsWrongFalsely : Prop := ghostKeepsRow.holds Tryd.pinned (OpenSpec.ofChange ghostKeepsWrong)

/-- 'thimblelaw09.GhostHonest': WHATEVER THE INPUT: true; the input reads as it did. -/
def ghostHonestSpec : ChangeSpec := { name := "ghostHonest", fn := fun _ => fun
  | [d] => { results := [.lit (.bool true)], args := [d] }
  | _ => none }
def ghostHonestRow : OpenClaim := { program := "ythpgjbblbhjndaadoor", sum := "e28b97a2a73051b5eec36d0d9feeb060917b88b4548086f5f17835e5ab93cea6", func := "thimble/thimblelaw09.GhostHonest", spec := "ghostHonest", inPlace := ["internal/bytealg.MakeNoZero"], named := ["thimble/sha.start", "thimble/sha.roundWords"], plainKeys := false, apart := false, laid := [("thimble/sha.start", laid_thimble_sha_start), ("thimble/sha.roundWords", laid_thimble_sha_roundWords)] }
def GhostHonestSaid : Prop := ghostHonestRow.holds Tryd.pinned (OpenSpec.ofChange ghostHonestSpec)

/-- ITS FALSE NEIGHBOUR: 'it returns false'. Refute it at one input. -/
def ghostHonestWrong : ChangeSpec := { name := "ghostHonest", fn := fun _ => fun
  | [d] => { results := [.lit (.bool false)], args := [d] }
  | _ => none }
def GhostHonestWrongFalsely : Prop := ghostHonestRow.holds Tryd.pinned (OpenSpec.ofChange ghostHonestWrong)

/-- 'thimblelaw09.GhostNil': WHATEVER THE INPUT: true; the input reads as it did. -/
def ghostNilSpec : ChangeSpec := { name := "ghostNil", fn := fun _ => fun
  | [d1, d2] => { results := [.lit (.bool true)], args := [d1, d2] }
  | _ => none }
def ghostNilRow : OpenClaim := { program := "ythpgjbblbhjndaadoor", sum := "e28b97a2a73051b5eec36d0d9feeb060917b88b4548086f5f17835e5ab93cea6", func := "thimble/thimblelaw09.GhostNil", spec := "ghostNil", inPlace := ["internal/bytealg.MakeNoZero"], named := ["thimble/sha.start", "thimble/sha.roundWords"], plainKeys := false, apart := false, laid := [("thimble/sha.start", laid_thimble_sha_start), ("thimble/sha.roundWords", laid_thimble_sha_roundWords)] }
def GhostNilSaid : Prop := ghostNilRow.holds Tryd.pinned (OpenSpec.ofChange ghostNilSpec)

/-- ITS FALSE NEIGHBOUR: 'it returns false'. Refute it at one input. -/
def ghostNilWrong : ChangeSpec := { name := "ghostNil", fn := fun _ => fun
  | [d1, d2] => { results := [.lit (.bool false)], args := [d1, d2] }
  | _ => none }
def GhostNilWrongFalsely : Prop := ghostNilRow.holds Tryd.pinned (OpenSpec.ofChange ghostNilWrong)

/- THE SECOND FORM. 'bulk': how many values and letters a reading holds, each counted each time it is reached (what is shared counts as often as it is met; a slice's spare places count too). A statement '..UptoSaid' is the law's where the arguments, and the package variables that the reading takes, are together of bulk at most 1048576: NARROWER than '..Said'. Prove '..Said' where nothing that the law and all that it calls make is longer than what came in: it says more and counts as full. Else prove '..UptoSaid'. A law counts once. -/
mutual
def uptoBulk {H : Type} : DataW H → Nat
  | .lit (.string bytes) => bytes.length + 1
  | .lit _ => 1
  | .nil => 1
  | .ptr d => uptoBulk d + 1
  | .slice elems spare => uptoBulkAll elems + uptoBulkAll spare + 1
  | .agg parts => uptoBulkAll parts + 1
  | .iface _ d => uptoBulk d + 1
  | .map entries => uptoBulkEntries entries + 1
  | .held _ => 1
def uptoBulkAll {H : Type} : List (DataW H) → Nat
  | [] => 0
  | d :: r => uptoBulk d + uptoBulkAll r
def uptoBulkEntries {H : Type} : List (Lit × DataW H) → Nat
  | [] => 0
  | x :: r => uptoBulkEntry x + uptoBulkEntries r
def uptoBulkEntry {H : Type} : Lit × DataW H → Nat
  | (.string bytes, d) => bytes.length + uptoBulk d + 1
  | (_, d) => uptoBulk d + 1
 end
def uptoSmall : (H : Type) → List (DataW H) → Bool := fun _ ds => decide (uptoBulkAll ds ≤ 1048576)
def OpenSpec.upto (s : _root_.Go.ChangeSpec) : _root_.Go.OpenSpec := { _root_.Go.OpenSpec.ofChange s with cond := some uptoSmall }

/-- 'thimblelaw09.GhostClashes', WHERE WHAT IT READS IS OF BULK AT MOST 1048576: true; the input reads as it did. -/
def ghostClashesUptoRow : OpenClaim := { program := "ythpgjbblbhjndaadoor", sum := "e28b97a2a73051b5eec36d0d9feeb060917b88b4548086f5f17835e5ab93cea6", func := "thimble/thimblelaw09.GhostClashes", spec := "ghostClashes", inPlace := ["internal/bytealg.MakeNoZero"], named := ["thimble/sha.start", "thimble/sha.roundWords"], plainKeys := false, apart := false, laid := [("thimble/sha.start", laid_thimble_sha_start), ("thimble/sha.roundWords", laid_thimble_sha_roundWords)], narrowed := true }
def GhostClashesUptoSaid : Prop := ghostClashesUptoRow.holds Tryd.pinned (OpenSpec.upto ghostClashesSpec)

/-- 'thimblelaw09.GhostForges', WHERE WHAT IT READS IS OF BULK AT MOST 1048576: true; the input reads as it did. -/
def ghostForgesUptoRow : OpenClaim := { program := "ythpgjbblbhjndaadoor", sum := "e28b97a2a73051b5eec36d0d9feeb060917b88b4548086f5f17835e5ab93cea6", func := "thimble/thimblelaw09.GhostForges", spec := "ghostForges", inPlace := ["internal/bytealg.MakeNoZero"], named := ["thimble/sha.start", "thimble/sha.roundWords"], plainKeys := false, apart := false, laid := [("thimble/sha.start", laid_thimble_sha_start), ("thimble/sha.roundWords", laid_thimble_sha_roundWords)], narrowed := true }
def GhostForgesUptoSaid : Prop := ghostForgesUptoRow.holds Tryd.pinned (OpenSpec.upto ghostForgesSpec)

/-- 'thimblelaw09.GhostTwice', WHERE WHAT IT READS IS OF BULK AT MOST 1048576: true; the input reads as it did. -/
def ghostTwiceUptoRow : OpenClaim := { program := "ythpgjbblbhjndaadoor", sum := "e28b97a2a73051b5eec36d0d9feeb060917b88b4548086f5f17835e5ab93cea6", func := "thimble/thimblelaw09.GhostTwice", spec := "ghostTwice", inPlace := ["internal/bytealg.MakeNoZero"], named := ["thimble/sha.start", "thimble/sha.roundWords"], plainKeys := false, apart := false, laid := [("thimble/sha.start", laid_thimble_sha_start), ("thimble/sha.roundWords", laid_thimble_sha_roundWords)], narrowed := true }
def GhostTwiceUptoSaid : Prop := ghostTwiceUptoRow.holds Tryd.pinned (OpenSpec.upto ghostTwiceSpec)

/-- 'thimblelaw09.GhostKeeps', WHERE WHAT IT READS IS OF BULK AT MOST 1048576: true; the input reads as it did. -/
def ghostKeepsUptoRow : OpenClaim := { program := "ythpgjbblbhjndaadoor", sum := "e28b97a2a73051b5eec36d0d9feeb060917b88b4548086f5f17835e5ab93cea6", func := "thimble/thimblelaw09.GhostKeeps", spec := "ghostKeeps", inPlace := ["internal/bytealg.MakeNoZero"], named := ["thimble/sha.start", "thimble/sha.roundWords"], plainKeys := false, apart := false, laid := [("thimble/sha.start", laid_thimble_sha_start), ("thimble/sha.roundWords", laid_thimble_sha_roundWords)], narrowed := true }
def GhostKeepsUptoSaid : Prop := ghostKeepsUptoRow.holds Tryd.pinned (OpenSpec.upto ghostKeepsSpec)

/-- 'thimblelaw09.GhostHonest', WHERE WHAT IT READS IS OF BULK AT MOST 1048576: true; the input reads as it did. -/
def ghostHonestUptoRow : OpenClaim := { program := "ythpgjbblbhjndaadoor", sum := "e28b97a2a73051b5eec36d0d9feeb060917b88b4548086f5f17835e5ab93cea6", func := "thimble/thimblelaw09.GhostHonest", spec := "ghostHonest", inPlace := ["internal/bytealg.MakeNoZero"], named := ["thimble/sha.start", "thimble/sha.roundWords"], plainKeys := false, apart := false, laid := [("thimble/sha.start", laid_thimble_sha_start), ("thimble/sha.roundWords", laid_thimble_sha_roundWords)], narrowed := true }
def GhostHonestUptoSaid : Prop := ghostHonestUptoRow.holds Tryd.pinned (OpenSpec.upto ghostHonestSpec)

/-- 'thimblelaw09.GhostNil', WHERE WHAT IT READS IS OF BULK AT MOST 1048576: true; the input reads as it did. -/
def ghostNilUptoRow : OpenClaim := { program := "ythpgjbblbhjndaadoor", sum := "e28b97a2a73051b5eec36d0d9feeb060917b88b4548086f5f17835e5ab93cea6", func := "thimble/thimblelaw09.GhostNil", spec := "ghostNil", inPlace := ["internal/bytealg.MakeNoZero"], named := ["thimble/sha.start", "thimble/sha.roundWords"], plainKeys := false, apart := false, laid := [("thimble/sha.start", laid_thimble_sha_start), ("thimble/sha.roundWords", laid_thimble_sha_roundWords)], narrowed := true }
def GhostNilUptoSaid : Prop := ghostNilUptoRow.holds Tryd.pinned (OpenSpec.upto ghostNilSpec)

end Rows
end Go.Proofs.YthpgjbblbhjndaaDoor
