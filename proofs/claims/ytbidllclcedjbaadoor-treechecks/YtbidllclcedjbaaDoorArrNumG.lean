/- Arrays of bytes that came in, by value, as numbers. -/
import Derived.Test.YtbidllclcedjbaaDoorAllA
import Derived.ProofKit
import Derived.OpenShut
import Derived.ChangeOld
import Derived.Below
namespace Go.Proofs.YtbidllclcedjbaaDoor
open Go.ChangeShapes Go.WideShapes Go.ChangeAt Go.RowKit Go.Deep

section
variable {H : Type} {enc : TypeId × Value → H} {P : Program} {w : World} {base : Nat} {spare : Nat → Bool} {held : Bool}

theorem mapM_eachN {α β : Type} {f : α → Option β} : ∀ (L : List α) (xs : List β), L.mapM f = some xs → ∀ a ∈ L, ∃ y, f a = some y
  | [], _, _, a, ha => by cases ha
  | b :: L, xs, h, a, ha => by
    rw [List.mapM_cons] at h
    simp only [bind, Option.bind_eq_some_iff, pure, Option.some.injEq] at h
    obtain ⟨y, hy, ys, hys, rfl⟩ := h
    rcases List.mem_cons.1 ha with rfl | ha
    · exact ⟨y, hy⟩
    · exact mapM_eachN L ys hys a ha
/-- A byte by its number. -/
theorem byte_num {b : Int} (h : (Lit.int .u8 b).wf = true) : ∃ x : Nat, b = (x : Int) ∧ x < 256 := by
  have h1 : IntKind.u8.min ≤ b ∧ b ≤ IntKind.u8.max := by simpa [Lit.wf] using h
  have e1 : IntKind.u8.min = 0 := rfl
  have e2 : IntKind.u8.max = 255 := rfl
  exact ⟨b.toNat, by omega, by omega⟩
theorem view_arrN {t e : TypeId} {n : Nat} {v : Value} {d : DataW H} {ps : List MemPlace} {r : Reach} {b0 : Nat} {ts : List TypeId} {ds : List (DataW H)} {j : Nat}
    (hu : P.underlying t = some (.array n e)) (hf : P.underlying e = some (.int .u8)) (hc : P.cellsOf e = 1) (hct : P.cellsOf t = n)
    (hval : Value.okWide P w r b0 t v) (h : DataW.Trod enc P w base spare held t v d ps) (_hlt : ∀ x ∈ ps, x.block < w.heap.size)
    (_hsz : (DataW.weightsEach P ts ds).all (· ≤ reachBytes) = true) (_ht : ts[j]? = some t) (_hd : ds[j]? = some d) : ∃ b : List Nat, v = .agg (u8s b).toArray ∧ b.length = n ∧ ∀ z ∈ b, z < 256 := by
  simp only [Value.okWide, hu] at hval
  obtain ⟨cs, rfl, hs, _⟩ := hval
  rw [hct] at hs
  obtain ⟨fuel, hf1⟩ := h
  cases fuel with
  | zero => simp [DataW.trod] at hf1
  | succ m =>
    rw [DataW.trod_step] at hf1
    unfold DataW.trodStep at hf1
    simp only [hu, Value.cells] at hf1
    rw [if_pos (by rw [hct]; simpa using hs)] at hf1
    simp only [Option.map_eq_some_iff] at hf1
    obtain ⟨xs, hxs, _⟩ := hf1
    have hel : ∀ i, i < n → ∃ x : Nat, cs[i]? = some (.int .u8 (x : Int)) ∧ x < 256 := by
      intro i hi
      obtain ⟨y, hy⟩ := mapM_eachN _ _ hxs i (by simpa using hi)
      obtain ⟨b, hb, _, hw⟩ := DataW.trod_int hf hy
      obtain ⟨x, rfl, hx⟩ := byte_num hw
      refine ⟨x, ?_, hx⟩
      rw [hc, Nat.mul_one] at hb
      have hlt : i < cs.toList.length := by simp; omega
      rw [List.drop_eq_getElem_cons hlt, List.take_succ_cons, List.take_zero] at hb
      simp only [List.cons.injEq, and_true] at hb
      rw [Array.getElem?_eq_getElem (by omega)]
      simpa using hb
    obtain ⟨B, hB⟩ := choose_lt (α := Nat) (p := fun i x => cs[i]? = some (.int .u8 (x : Int)) ∧ x < 256) hel
    refine ⟨(List.range n).map B, ?_, by simp, fun z hz => by
      obtain ⟨i, hi, rfl⟩ := List.mem_map.1 hz
      exact (hB i (List.mem_range.1 hi)).2⟩
    congr 1
    apply Array.ext_getElem?
    intro i
    by_cases hi : i < n
    · rw [(hB i hi).1]
      simp [u8s, hi]
    · rw [Array.getElem?_eq_none (by omega), Array.getElem?_eq_none (by simp [u8s]; omega)]
/-- A slice that came in has no more than it has room for. -/
theorem view_room {t e : TypeId} {v : Value} {d : DataW H} {ps : List MemPlace} {r : Reach} {b0 : Nat} (hu : P.underlying t = some (.slice e)) (hce : P.cellsOf e = 1)
    (hval : Value.okWide P w r b0 t v) (h : DataW.Trod enc P w base spare held t v d ps) : ∀ ao n c, v = .slice ao n c → n ≤ c := by
  obtain ⟨a0, len, cap, rfl⟩ := okWide_slice hu hval
  obtain ⟨fuel, hf1⟩ := h
  rintro ao n c e
  cases e
  rcases open_slice1 hu hce hf1 with ⟨hcs, _⟩ | ⟨a, len', cap', m, n, V, D, Pl, hcs, _, hl, hm, hmm, hx, hcell⟩
  · simp [Value.cells] at hcs
    omega
  · simp [Value.cells] at hcs
    omega
end
end Go.Proofs.YtbidllclcedjbaaDoor
