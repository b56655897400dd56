/- bytes.Clone, bytes.Equal; rows made of literals. -/
import Derived.Test.YtffiphdbjohilaaRefBytes
import Derived.Test.YtffiphdbjohilaaBlocks
import Derived.Laws.Cover3
import Derived.Laws.Pointers
import Derived.Laws.BitsAllLaws
import Derived.Laws.CopyOwn
import Derived.Laws.IdiomStrings
import Derived.Great.BuildSlice
import Derived.Great.FillDense
namespace Go.Proofs.Ytffiphdbjohilaa
open Go.RowKit

theorem nil_eql (w : World) (ao : Option Addr) (n cap : Nat) : Sem.run Try.prog (binOp .eql 23 (.slice ao n cap) (.slice none 0 0)) w = .ok (.bool ao.isNone) w := by
  have h := run_equal_slice_nil (P := Try.prog) w 23 5 ao n cap Try.underlying23
  simp [binOp, h]

theorem clone_any {v : Value} {xs : List Nat} {w : World} (hv : Bs w v xs) (hl : xs.length ≤ 140737488355328) :
    Calls Try.prog 28 #[v] w fun e w' => ∃ v', e = .returned v' ∧ Ow w' w.heap.size v' xs ∧ Below w.heap.size w w' := by
  obtain ⟨i0, hi, hz0, hz1, hz2⟩ := info_parts u8info
  have HV : Hid (Bs w v xs) := hv
  obtain ⟨ao, cap, rfl, hnone, _⟩ := hv.gen
  clear hv
  cases ao with
  | none =>
    obtain ⟨h0, rfl⟩ := hnone rfl
    have := List.eq_nil_of_length_eq_zero h0
    subst this
    clear hnone
    simp only [List.length_nil]
    have hn0 := nil_eql w none 0 0
    go_enter Try.func28, Try.ntmps28
    go_wp2
    go_ret
    exact ⟨_, rfl, Ow.nil _ _, Below.refl _ _⟩
  | some ad =>
    obtain ⟨n, hn⟩ : ∃ n, xs.length = n := ⟨_, rfl⟩
    have HN : Hid (xs.length = n) := hn
    have hlit : (w.alloc (.cells #[] 5)).ownsRow w.heap.size 5 1 (.slice (some ⟨w.heap.size, 0, none⟩) 0 0) 0 [] := by
      have := World.ownsRow_lit (base := w.heap.size) (size := 1) (e := 5) w #[] 0 (Nat.le_refl _) (by decide) rfl
      simpa using this
    have hb0 : Below w.heap.size w (w.alloc (.cells #[] 5)) := (Below.refl _ _).alloc (Nat.le_refl _) _
    rw [hn] at hl ⊢
    clear hn hnone
    have hn0 := nil_eql w (some ad) n cap
    go_enter Try.func28, Try.ntmps28
    go_wp2_with (at_builtin; refine wpList_append_own _ rfl _ _ 23 rfl w.heap.size 5 i0 (.int .u8 0) 1 1 Try.underlying23 hi hz0 hz1 hz2 rfl (by decide) _ _ _ rfl hlit ad n cap (u8s xs) rfl (by simp [u8s]; exact HN.out) ((HV.out.below hb0).cells ad rfl) (u8s_one xs) (by unfold maxLen; omega) (by omega) (by simp) ?_; intro v' w2 hown' hgrow' hnil')
    go_ret
    refine ⟨_, rfl, ⟨HV.out.1, HV.out.2.1, ?_⟩, ?_⟩
    · rw [HN.out]; simpa using hown'
    · exact hb0.grown hgrow' (by simp) (fun k hk => by have hk' : some w.heap.size = some k := hk; cases hk'; exact Nat.le_refl _)


/-- A row made of some values. -/
theorem run_rowlit {t e : TypeId} {s : Nat} {z : Value} {ie : TypeInfo} (w : World) (hu : Try.prog.underlying t = some (.slice e)) (hie : Try.prog.info? e = some ie) (hz : ie.zero = some z) (hsz : ie.size = s) (hs : 0 < s) (vs : List Value) (hv : ∀ v ∈ vs, v.cells.size = s) (h0 : 0 < vs.length) (hl : vs.length * s ≤ 16777216)
    (parts : Array (Nat × Value)) (hp : parts.toList = (vs.zipIdx 0).map fun x => (x.2, x.1)) :
    (Instr.buildSlice t vs.length parts).run Try.prog w = .ok (.slice (some ⟨w.heap.size, 0, none⟩) vs.length vs.length) (w.alloc (.cells (vs.flatMap fun v => v.cells.toList).toArray e)) := by
  subst hsz
  have h1 : ¬ vs.length * ie.size > 2 ^ 24 := by
    have : (2 : Nat) ^ 24 = 16777216 := by decide
    omega
  have h2 : ¬ vs.length * ie.size = 0 := by
    have := Nat.mul_pos h0 hs
    omega
  refine run_buildSlice w t e vs.length parts _ ie z hu hie hz h1 h2 ?_
  rw [hp]
  exact Great.fill_whole hs vs _ hv (by simp)
end Go.Proofs.Ytffiphdbjohilaa
