/- bytes.Clone, bytes.Equal; rows made of literals. -/
import Derived.Test.YthpgjbblbhjndaaDoorRefBytes
import Derived.Test.YthpgjbblbhjndaaDoorBlocks
import Derived.Laws.Cover3
import Derived.Laws.Pointers
import Derived.Laws.BitsAllLaws
import Derived.Laws.CopyOwn
import Derived.Laws.IdiomStrings
import Derived.Great.BuildSlice
import Derived.Great.FillDense
namespace Go.Proofs.YthpgjbblbhjndaaDoor
open Go.RowKit

theorem nil_eql (w : World) (ao : Option Addr) (n cap : Nat) : Sem.run Tryd.prog (binOp .eql 31 (.slice ao n cap) (.slice none 0 0)) w = .ok (.bool ao.isNone) w := by
  have h := run_equal_slice_nil (P := Tryd.prog) w 31 5 ao n cap Tryd.underlying31
  simp [binOp, h]

theorem clone_any {v : Value} {xs : List Nat} {w : World} (hv : Bs w v xs) (hl : xs.length ≤ 140737488355328) :
    Calls Tryd.prog 31 #[v] w fun e w' => ∃ v', e = .returned v' ∧ Ow w' w.heap.size v' xs ∧ Below w.heap.size w w' := by
  obtain ⟨i0, hi, hz0, hz1, hz2⟩ := info_parts u8info
  have HV : Hid (Bs w v xs) := hv
  obtain ⟨ao, cap, rfl, hnone, _⟩ := hv.gen
  clear hv
  cases ao with
  | none =>
    obtain ⟨h0, rfl⟩ := hnone rfl
    have := List.eq_nil_of_length_eq_zero h0
    subst this
    clear hnone
    simp only [List.length_nil]
    have hn0 := nil_eql w none 0 0
    go_enter Tryd.func31, Tryd.ntmps31
    go_wp2
    go_ret
    exact ⟨_, rfl, Ow.nil _ _, Below.refl _ _⟩
  | some ad =>
    obtain ⟨n, hn⟩ : ∃ n, xs.length = n := ⟨_, rfl⟩
    have HN : Hid (xs.length = n) := hn
    have hlit : (w.alloc (.cells #[] 5)).ownsRow w.heap.size 5 1 (.slice (some ⟨w.heap.size, 0, none⟩) 0 0) 0 [] := by
      have := World.ownsRow_lit (base := w.heap.size) (size := 1) (e := 5) w #[] 0 (Nat.le_refl _) (by decide) rfl
      simpa using this
    have hb0 : Below w.heap.size w (w.alloc (.cells #[] 5)) := (Below.refl _ _).alloc (Nat.le_refl _) _
    rw [hn] at hl ⊢
    clear hn hnone
    have hn0 := nil_eql w (some ad) n cap
    go_enter Tryd.func31, Tryd.ntmps31
    go_wp2_with (at_builtin; refine wpList_append_own _ rfl _ _ 31 rfl w.heap.size 5 i0 (.int .u8 0) 1 1 Tryd.underlying31 hi hz0 hz1 hz2 rfl (by decide) _ _ _ rfl hlit ad n cap (u8s xs) rfl (by simp [u8s]; exact HN.out) ((HV.out.below hb0).cells ad rfl) (u8s_one xs) (by unfold maxLen; omega) (by omega) (by simp) ?_; intro v' w2 hown' hgrow' hnil')
    go_ret
    refine ⟨_, rfl, ⟨HV.out.1, HV.out.2.1, ?_⟩, ?_⟩
    · rw [HN.out]; simpa using hown'
    · exact hb0.grown hgrow' (by simp) (fun k hk => by have hk' : some w.heap.size = some k := hk; cases hk'; exact Nat.le_refl _)


def strOf (xs : List Nat) : ByteArray := ⟨(xs.map UInt8.ofNat).toArray⟩
theorem strOf_inj {xs ys : List Nat} (hx : ∀ z ∈ xs, z < 256) (hy : ∀ z ∈ ys, z < 256) (h : strOf xs = strOf ys) : xs = ys := by
  have h1 : xs.map UInt8.ofNat = ys.map UInt8.ofNat := by
    have := congrArg (fun b : ByteArray => b.data.toList) h
    simpa [strOf] using this
  have h2 := congrArg (List.map UInt8.toNat) h1
  rw [List.map_map, List.map_map] at h2
  have e : ∀ {l : List Nat}, (∀ z ∈ l, z < 256) → l.map (UInt8.toNat ∘ UInt8.ofNat) = l := by
    intro l hl
    induction l with
    | nil => rfl
    | cons a l ih =>
      rw [List.map_cons, ih (fun z hz => hl z (List.mem_cons_of_mem _ hz))]
      congr 1
      show (UInt8.ofNat a).toNat = a
      have := hl a List.mem_cons_self
      simp; omega
  rw [e hx, e hy] at h2
  exact h2
theorem convert_bs {w : World} {v : Value} {xs : List Nat} (h : Bs w v xs) : (convert 31 9 v).run Tryd.prog w = .ok (.string (strOf xs)) w := by
  have hlt := h.1
  obtain ⟨ao, cap, rfl, hnone, hc⟩ := h.gen
  cases ao with
  | none =>
    obtain ⟨h0, rfl⟩ := hnone rfl
    have := List.eq_nil_of_length_eq_zero h0
    subst this
    rw [run_convert_bytes_string w _ _ 5 none _ _ Tryd.underlying31 Tryd.underlying5 Tryd.underlying9]
    simp [Conv.bytesToString, strOf]
    rfl
  | some ad =>
    have hl : xs.length = (xs.map UInt8.ofNat).length := by simp
    rw [hl]
    refine run_convert_bytes_back w _ _ 5 ad cap (xs.map UInt8.ofNat) Tryd.underlying31 Tryd.underlying5 Tryd.underlying9 (fun j hj => ?_)
    have hj' : j < xs.length := by simpa using hj
    rw [hc ad rfl j (.int .u8 (xs.getD j 0 : Nat)) (u8s_get xs j hj')]
    have := hlt _ (getD_mem xs j hj')
    have e : xs.getD j 0 = xs[j] := by simp [List.getD, hj']
    rw [e] at this ⊢
    simp
    omega
theorem equal_any {v u : Value} {xs ys : List Nat} {w : World} (hv : Bs w v xs) (hu : Bs w u ys) :
    Calls Tryd.prog 40 #[v, u] w fun e w' => e = .returned (.bool (decide (xs = ys))) ∧ w' = w := by
  have c1 := convert_bs hv
  have c2 := convert_bs hu
  have hq : ((strOf xs).toList == (strOf ys).toList) = decide (xs = ys) := by
    by_cases h : xs = ys
    · rw [h]; simp
    · rw [decide_eq_false h]
      simp only [beq_eq_false_iff_ne, ne_eq]
      intro e
      rw [ByteArray.toList_eq, ByteArray.toList_eq] at e
      exact h (strOf_inj hv.1 hu.1 (WideShapes.bytes_inj e))
  generalize strOf xs = X at *
  generalize strOf ys = Y at *
  generalize decide (xs = ys) = B at *
  go_enter Tryd.func40, Tryd.ntmps40
  go_wp2
  go_ret
  exact ⟨rfl, rfl⟩

/-- A row made of some values. -/
theorem run_rowlit {t e : TypeId} {s : Nat} {z : Value} {ie : TypeInfo} (w : World) (hu : Tryd.prog.underlying t = some (.slice e)) (hie : Tryd.prog.info? e = some ie) (hz : ie.zero = some z) (hsz : ie.size = s) (hs : 0 < s) (vs : List Value) (hv : ∀ v ∈ vs, v.cells.size = s) (h0 : 0 < vs.length) (hl : vs.length * s ≤ 16777216)
    (parts : Array (Nat × Value)) (hp : parts.toList = (vs.zipIdx 0).map fun x => (x.2, x.1)) :
    (Instr.buildSlice t vs.length parts).run Tryd.prog w = .ok (.slice (some ⟨w.heap.size, 0, none⟩) vs.length vs.length) (w.alloc (.cells (vs.flatMap fun v => v.cells.toList).toArray e)) := by
  subst hsz
  have h1 : ¬ vs.length * ie.size > 2 ^ 24 := by
    have : (2 : Nat) ^ 24 = 16777216 := by decide
    omega
  have h2 : ¬ vs.length * ie.size = 0 := by
    have := Nat.mul_pos h0 hs
    omega
  refine run_buildSlice w t e vs.length parts _ ie z hu hie hz h1 h2 ?_
  rw [hp]
  exact Great.fill_whole hs vs _ hv (by simp)
end Go.Proofs.YthpgjbblbhjndaaDoor
