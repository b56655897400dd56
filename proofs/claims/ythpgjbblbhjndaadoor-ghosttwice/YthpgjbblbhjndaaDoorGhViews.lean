/- What a walk is told of tuples, and of acts, that came in. -/
import Derived.Test.YthpgjbblbhjndaaDoorGhAwake
import Derived.Test.YthpgjbblbhjndaaDoorParts
namespace Go.Proofs.YthpgjbblbhjndaaDoor
open Go.ChangeShapes Go.WideShapes Go.ChangeAt Go.RowKit Go.Deep

section
variable {H : Type} {enc : TypeId × Value → H} {w : World} {base : Nat} {spare : Nat → Bool} {held : Bool}
theorem mapM_each {α β : Type} {f : α → Option β} : ∀ (L : List α) (xs : List β), L.mapM f = some xs → ∀ a ∈ L, ∃ y, f a = some y
  | [], _, _, a, ha => by cases ha
  | b :: L, xs, h, a, ha => by
    rw [List.mapM_cons] at h
    simp only [bind, Option.bind_eq_some_iff, pure, Option.some.injEq] at h
    obtain ⟨y, hy, ys, hys, rfl⟩ := h
    rcases List.mem_cons.1 ha with rfl | ha
    · exact ⟨y, hy⟩
    · exact mapM_each L ys hys a ha
theorem nat_of_u8 {b : Int} (h : (Lit.int .u8 b).wf = true) : ∃ x : Nat, b = (x : Int) ∧ x < 256 := by
  have h1 : IntKind.u8.min ≤ b ∧ b ≤ IntKind.u8.max := by simpa [Lit.wf] using h
  have e1 : IntKind.u8.min = 0 := rfl
  have e2 : IntKind.u8.max = 255 := rfl
  exact ⟨b.toNat, by omega, by omega⟩
theorem trod_u8s {t : TypeId} {n m : Nat} {cs : List Value} {d : DataW H} {ps : List MemPlace} (hu : Tryd.prog.underlying t = some (.array n 5)) (hct : Tryd.prog.cellsOf t = n) (h : DataW.trod enc Tryd.prog w base spare held m t cs = some (d, ps)) (hl : cs.length = n) : ∃ D : List Nat, cs = u8s D ∧ D.length = n ∧ ∀ z ∈ D, z < 256 := by
  have hc : Tryd.prog.cellsOf 5 = 1 := by kernel_rfl
  cases m with
  | zero => simp [DataW.trod] at h
  | succ m =>
    rw [DataW.trod_step] at h
    unfold DataW.trodStep at h
    simp only [hu] at h
    rw [if_pos (by rw [hct]; exact hl)] at h
    simp only [Option.map_eq_some_iff] at h
    obtain ⟨xs, hxs, _⟩ := h
    have hel : ∀ i, i < n → ∃ x : Nat, cs[i]? = some (.int .u8 (x : Int)) ∧ x < 256 := by
      intro i hi
      obtain ⟨y, hy⟩ := mapM_each _ _ hxs i (by simpa using hi)
      obtain ⟨b, hb, _, hw⟩ := DataW.trod_int Tryd.underlying5 hy
      obtain ⟨x, rfl, hx⟩ := nat_of_u8 hw
      refine ⟨x, ?_, hx⟩
      rw [hc, Nat.mul_one] at hb
      have hlt : i < cs.length := by omega
      rw [List.drop_eq_getElem_cons hlt, List.take_succ_cons, List.take_zero] at hb
      simp only [List.cons.injEq, and_true] at hb
      rw [List.getElem?_eq_getElem hlt, hb]
    obtain ⟨B, hB⟩ := choose_lt (α := Nat) (p := fun i x => cs[i]? = some (.int .u8 (x : Int)) ∧ x < 256) hel
    refine ⟨(List.range n).map B, ?_, by simp, fun z hz => ?_⟩
    · apply List.ext_getElem?
      intro i
      by_cases hi : i < n
      · rw [(hB i hi).1]; simp [u8s, hi]
      · rw [List.getElem?_eq_none (by omega), List.getElem?_eq_none (by simp [u8s]; omega)]
    · obtain ⟨i, hi, rfl⟩ := List.mem_map.1 hz
      exact (hB i (by simpa using hi)).2
theorem Tst : Tryd.prog.underlying 46 = some (.struct #[⟨"Epoch", 43, 0, false, "", "", 0⟩, ⟨"Nonce", 44, 1, false, "", "", 4⟩, ⟨"Aad", 31, 13, false, "", "", 16⟩, ⟨"Sealed", 31, 14, false, "", "", 40⟩]) := by kernel_rfl
theorem trod_tup {m : Nat} {cs : List Value} {d : DataW H} {ps : List MemPlace} (h : DataW.trod enc Tryd.prog w base spare held m 46 cs = some (d, ps)) (hlt : ∀ x ∈ ps, x.block < w.heap.size) (hsz : ∀ k ∈ d.weights Tryd.prog 46, k ≤ reachBytes) (hl : cs.length = 15) :
    ∃ T va vs, cs = tcells T va vs ∧ Tv w (fun _ => True) T va vs ∧ T.2.2.1.length ≤ 140737488351232 ∧ T.2.2.2.length ≤ 140737488351232 := by
  obtain ⟨xs, nn, _, hx, _, hxl, hf⟩ := DataW.trod_struct Tst h
  simp only [Prod.mk.injEq] at hx
  obtain ⟨hD, hP⟩ := hx
  match xs, hxl with
  | [x0, x1, x2, x3], _ =>
    have c1 : Tryd.prog.cellsOf 43 = 1 := by kernel_rfl
    have c12 : Tryd.prog.cellsOf 44 = 12 := by kernel_rfl
    have cs1 : Tryd.prog.cellsOf 31 = 1 := by kernel_rfl
    have g0 : DataW.trod enc Tryd.prog w base spare held nn 43 ((cs.drop 0).take (Tryd.prog.cellsOf 43)) = some x0 := hf 0 _ rfl
    have g1 : DataW.trod enc Tryd.prog w base spare held nn 44 ((cs.drop 1).take (Tryd.prog.cellsOf 44)) = some x1 := hf 1 _ rfl
    have g2 : DataW.trod enc Tryd.prog w base spare held nn 31 ((cs.drop 13).take (Tryd.prog.cellsOf 31)) = some x2 := hf 2 _ rfl
    have g3 : DataW.trod enc Tryd.prog w base spare held nn 31 ((cs.drop 14).take (Tryd.prog.cellsOf 31)) = some x3 := hf 3 _ rfl
    rw [c1] at g0
    rw [c12] at g1
    rw [cs1] at g2 g3
    match cs, hl with
    | [a0, b0, b1, b2, b3, b4, b5, b6, b7, b8, b9, b10, b11, p, q], _ =>
      have g0' : DataW.trod enc Tryd.prog w base spare held nn 43 [a0] = some x0 := g0
      have g1' : DataW.trod enc Tryd.prog w base spare held nn 44 [b0, b1, b2, b3, b4, b5, b6, b7, b8, b9, b10, b11] = some (x1.1, x1.2) := g1
      have g2' : DataW.trod enc Tryd.prog w base spare held nn 31 [p] = some (x2.1, x2.2) := g2
      have g3' : DataW.trod enc Tryd.prog w base spare held nn 31 [q] = some (x3.1, x3.2) := g3
      obtain ⟨z, hz1, _, hw0⟩ := DataW.trod_int Tryd.underlying43 g0'
      have h8 : IntKind.u32.min ≤ z ∧ z ≤ IntKind.u32.max := by simpa [Lit.wf, go_sem] using hw0
      have e1 : IntKind.u32.min = 0 := rfl
      have e2 : IntKind.u32.max = 4294967295 := rfl
      obtain ⟨D, hDc, hDl, hDb⟩ := trod_u8s Tryd.underlying44 c12 g1' rfl
      have hin : ∀ (j : Nat) (t : TypeId) (dd : DataW H), ([43, 44, 31, 31] : List TypeId)[j]? = some t → ([x0.1, x1.1, x2.1, x3.1] : List (DataW H))[j]? = some dd → ∀ k ∈ dd.weights Tryd.prog t, k ≤ reachBytes := fun j t dd hj hdd k hk => by
        refine hsz k ?_
        rw [hD]
        simp only [DataW.weights, Tst]
        exact DataW.weights_mem_each (j := j) hj hdd k hk
      obtain ⟨za, hba, hla⟩ := view_inner Tryd.underlying31 Tryd.underlying5 (by kernel_rfl) (by kernel_rfl) g2' (fun x hx => hlt x (by rw [hP]; simp [hx])) (hin 2 _ _ rfl rfl)
      obtain ⟨zs, hbs, hls⟩ := view_inner Tryd.underlying31 Tryd.underlying5 (by kernel_rfl) (by kernel_rfl) g3' (fun x hx => hlt x (by rw [hP]; simp [hx])) (hin 3 _ _ rfl rfl)
      refine ⟨(z.toNat, D, za, zs), p, q, ?_, ⟨by show z.toNat < _; omega, hDl, hDb, ⟨hba, fun _ _ _ => trivial⟩, ⟨hbs, fun _ _ _ => trivial⟩⟩, hla, hls⟩
      simp only [List.cons.injEq, and_true] at hz1
      show _ = Value.int .u32 (z.toNat : Int) :: (u8s D ++ [p, q])
      rw [← hDc, hz1, Int.toNat_of_nonneg (by omega)]
      rfl
theorem view_tup {v : Value} {d : DataW H} {ps : List MemPlace} {r : Reach} {b0 : Nat} {ts : List TypeId} {ds : List (DataW H)} {j : Nat}
    (hval : Value.okWide Tryd.prog w r b0 46 v) (h : DataW.Trod enc Tryd.prog w base spare held 46 v d ps) (hlt : ∀ x ∈ ps, x.block < w.heap.size)
    (hsz : (DataW.weightsEach Tryd.prog ts ds).all (· ≤ reachBytes) = true) (ht : ts[j]? = some 46) (hd : ds[j]? = some d) : ∃ T va vs, v = .agg (tcells T va vs).toArray ∧ Tv w (fun _ => True) T va vs ∧ T.2.2.1.length ≤ 140737488351232 ∧ T.2.2.2.length ≤ 140737488351232 := by
  obtain ⟨cs, rfl, hs⟩ := okWide_struct Tst hval
  obtain ⟨fuel, hf1⟩ := h
  have c15 : Tryd.prog.cellsOf 46 = 15 := by kernel_rfl
  rw [c15] at hs
  obtain ⟨T, va, vs, e, h1, h2, h3⟩ := trod_tup hf1 hlt (fun k hk => by
    have := List.all_eq_true.1 hsz _ (DataW.weights_mem_each ht hd k hk)
    simpa using this) (by simpa [Value.cells] using hs)
  refine ⟨T, va, vs, ?_, h1, h2, h3⟩
  have e' : cs.toList = tcells T va vs := e
  rw [← e']
end
end Go.Proofs.YthpgjbblbhjndaaDoor
