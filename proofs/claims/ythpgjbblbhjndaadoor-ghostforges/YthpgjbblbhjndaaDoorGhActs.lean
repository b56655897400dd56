/- What a walk is told of acts that came in. -/
import Derived.Test.YthpgjbblbhjndaaDoorGhViews
namespace Go.Proofs.YthpgjbblbhjndaaDoor
open Go.ChangeShapes Go.WideShapes Go.ChangeAt Go.RowKit Go.Deep

/-- An act: its kind, its data, its digest, its tuple. -/
abbrev GA := Int × List Nat × List Nat × Tup
def gcells (a : GA) (ud va vs : Value) : List Value := .int .i64 a.1 :: ud :: (u8s a.2.2.1 ++ tcells a.2.2.2 va vs)
/-- The act a lies at cell o of block b. -/
structure GAct (w : World) (b o : Nat) (a : GA) : Prop where
  kr : -9223372036854775808 ≤ a.1 ∧ a.1 ≤ 9223372036854775807
  dg : wf32 a.2.2.1
  lens : a.2.1.length ≤ 140737488351232 ∧ a.2.2.2.2.2.1.length ≤ 140737488351232 ∧ a.2.2.2.2.2.2.length ≤ 140737488351232
  ex : ∃ ud va vs, (∀ c u, (gcells a ud va vs)[c]? = some u → w.cell? ⟨b, o + c, none⟩ = some u) ∧ Bs w ud a.2.1 ∧ Tv w (fun _ => True) a.2.2.2 va vs
/-- The slice v holds the n acts A. -/
def GActs (w : World) (v : Value) (n : Nat) (A : Nat → GA) : Prop :=
  n ≤ 140737488351232 ∧ ((n = 0 ∧ ∃ ao cap, v = .slice ao 0 cap) ∨ (0 < n ∧ ∃ b off cap, v = .slice (some ⟨b, off, none⟩) n cap ∧ b < w.heap.size ∧ ∀ i, i < n → GAct w b (off + i * 49) (A i)))
theorem GAct.but {w w' : World} {b o : Nat} {a : GA} (h : GAct w b o a) (hb : b < w.heap.size) (hg : Grow w w') : GAct w' b o a := by
  obtain ⟨ud, va, vs, h1, h2, h3⟩ := h.ex
  exact ⟨h.kr, h.dg, h.lens, ud, va, vs, fun c u hc => (World.cell?_of_block (hg.block b hb (fun h => h))).trans (h1 c u hc), h2.but hg (fun _ _ _ h => h), h3.but hg (fun _ _ h => h)⟩

section
variable {H : Type} {enc : TypeId × Value → H} {w : World} {base : Nat} {spare : Nat → Bool} {held : Bool}
theorem trod_gact {m : Nat} {cs : List Value} {d : DataW H} {ps : List MemPlace} (h : DataW.trod enc Tryd.prog w base spare held m 59 cs = some (d, ps)) (hlt : ∀ x ∈ ps, x.block < w.heap.size) (hsz : ∀ k ∈ d.weights Tryd.prog 59, k ≤ reachBytes) (hl : cs.length = 49) :
    ∃ (a : GA) (ud va vs : Value), cs = gcells a ud va vs ∧ (-9223372036854775808 ≤ a.1 ∧ a.1 ≤ 9223372036854775807) ∧ wf32 a.2.2.1 ∧ (a.2.1.length ≤ 140737488351232 ∧ a.2.2.2.2.2.1.length ≤ 140737488351232 ∧ a.2.2.2.2.2.2.length ≤ 140737488351232) ∧ Bs w ud a.2.1 ∧ Tv w (fun _ => True) a.2.2.2 va vs := by
  obtain ⟨xs, nn, _, hx, _, hxl, hf⟩ := DataW.trod_struct Tryd.underlying59 h
  simp only [Prod.mk.injEq] at hx
  obtain ⟨hD, hP⟩ := hx
  match xs, hxl with
  | [x0, x1, x2, x3], _ =>
    have c1 : Tryd.prog.cellsOf 3 = 1 := by kernel_rfl
    have c32 : Tryd.prog.cellsOf 35 = 32 := by kernel_rfl
    have cs1 : Tryd.prog.cellsOf 31 = 1 := by kernel_rfl
    have c15 : Tryd.prog.cellsOf 46 = 15 := by kernel_rfl
    have g0 : DataW.trod enc Tryd.prog w base spare held nn 3 ((cs.drop 0).take (Tryd.prog.cellsOf 3)) = some x0 := hf 0 _ rfl
    have g1 : DataW.trod enc Tryd.prog w base spare held nn 31 ((cs.drop 1).take (Tryd.prog.cellsOf 31)) = some x1 := hf 1 _ rfl
    have g2 : DataW.trod enc Tryd.prog w base spare held nn 35 ((cs.drop 2).take (Tryd.prog.cellsOf 35)) = some x2 := hf 2 _ rfl
    have g3 : DataW.trod enc Tryd.prog w base spare held nn 46 ((cs.drop 34).take (Tryd.prog.cellsOf 46)) = some x3 := hf 3 _ rfl
    rw [c1] at g0
    rw [cs1] at g1
    rw [c32] at g2
    rw [c15] at g3
    match cs, hl with
    | a0 :: p :: r, hl =>
      have hr : r.length = 47 := by simpa using hl
      have g0' : DataW.trod enc Tryd.prog w base spare held nn 3 [a0] = some x0 := g0
      have g1' : DataW.trod enc Tryd.prog w base spare held nn 31 [p] = some (x1.1, x1.2) := g1
      have g2' : DataW.trod enc Tryd.prog w base spare held nn 35 (r.take 32) = some (x2.1, x2.2) := g2
      have g3' : DataW.trod enc Tryd.prog w base spare held nn 46 ((r.drop 32).take 15) = some (x3.1, x3.2) := g3
      obtain ⟨z, hz1, _, hw0⟩ := DataW.trod_int Tryd.underlying3 g0'
      have h8 : IntKind.i64.min ≤ z ∧ z ≤ IntKind.i64.max := by simpa [Lit.wf, go_sem] using hw0
      have e1 : IntKind.i64.min = -9223372036854775808 := rfl
      have e2 : IntKind.i64.max = 9223372036854775807 := rfl
      have hin : ∀ (j : Nat) (t : TypeId) (dd : DataW H), ([3, 31, 35, 46] : List TypeId)[j]? = some t → ([x0.1, x1.1, x2.1, x3.1] : List (DataW H))[j]? = some dd → ∀ k ∈ dd.weights Tryd.prog t, k ≤ reachBytes := fun j t dd hj hdd k hk => by
        refine hsz k ?_
        rw [hD]
        simp only [DataW.weights, Tryd.underlying59]
        exact DataW.weights_mem_each (j := j) hj hdd k hk
      obtain ⟨D, hDc, hDl, hDb⟩ := trod_u8s Tryd.underlying35 c32 g2' (by simp [hr])
      obtain ⟨zd, hbd, hld⟩ := view_inner Tryd.underlying31 Tryd.underlying5 (by kernel_rfl) (by kernel_rfl) g1' (fun x hx => hlt x (by rw [hP]; simp [hx])) (hin 1 _ _ rfl rfl)
      obtain ⟨T, va, vs, hTc, hTv, hl1, hl2⟩ := trod_tup g3' (fun x hx => hlt x (by rw [hP]; simp [hx])) (hin 3 _ _ rfl rfl) (by simp [hr])
      refine ⟨(z, zd, D, T), p, va, vs, ?_, ⟨by show _ ≤ z; omega, by show z ≤ _; omega⟩, ⟨hDl, hDb⟩, ⟨hld, hl1, hl2⟩, hbd, hTv⟩
      simp only [List.cons.injEq, and_true] at hz1
      show _ = Value.int .i64 z :: p :: (u8s D ++ tcells T va vs)
      rw [← hDc, ← hTc, hz1, List.take_of_length_le (l := r.drop 32) (by simp [hr]), List.take_append_drop]
theorem view_gacts {v : Value} {d : DataW H} {ps : List MemPlace} {r : Reach} {b0 : Nat} {ts : List TypeId} {ds : List (DataW H)} {j : Nat}
    (hval : Value.okWide Tryd.prog w r b0 22 v) (h : DataW.Trod enc Tryd.prog w base spare held 22 v d ps) (hlt : ∀ x ∈ ps, x.block < w.heap.size)
    (hsz : (DataW.weightsEach Tryd.prog ts ds).all (· ≤ reachBytes) = true) (ht : ts[j]? = some 22) (hd : ds[j]? = some d) : ∃ n A, GActs w v n A := by
  have hu := Tryd.underlying22
  have hce : Tryd.prog.cellsOf 59 = 49 := by kernel_rfl
  have hbe : 1 ≤ Tryd.prog.bytesOf 59 := of_decide_eq_true (by kernel_rfl)
  obtain ⟨a0, len, cap, rfl⟩ := okWide_slice hu hval
  obtain ⟨fuel, hfu⟩ := h
  rcases open_slice hu hfu with ⟨hcs, _⟩ | ⟨a, len', cap', m, n, D, Pl, hcs, _, hl, hm, hmm, hx, hel⟩
  · simp [Value.cells] at hcs
    obtain ⟨rfl, rfl, rfl⟩ := hcs
    exact ⟨0, fun _ => (0, [], [], tz), by omega, .inl ⟨rfl, _, _, rfl⟩⟩
  · simp [Value.cells] at hcs
    obtain ⟨rfl, rfl, rfl⟩ := hcs
    simp only [Prod.mk.injEq] at hx
    obtain ⟨rfl, rfl⟩ := hx
    have hlm : len ≤ m := by rw [hmm]; split <;> omega
    have hreach : len ≤ 140737488351232 := by
      have h1 := sized_slice hsz ht hd hu
      simp only [List.length_map, List.length_range, reachBytes] at h1
      have h2 : len + (m - len) ≤ (len + (m - len)) * Tryd.prog.bytesOf 59 := Nat.le_mul_of_pos_right _ hbe
      omega
    have hfl : ∀ i, i < len → ∃ F : GA, ∃ ud va vs, (∀ c u, (gcells F ud va vs)[c]? = some u → w.cell? (a.add (i * 49 + c)) = some u) ∧ (-9223372036854775808 ≤ F.1 ∧ F.1 ≤ 9223372036854775807) ∧ wf32 F.2.2.1 ∧ (F.2.1.length ≤ 140737488351232 ∧ F.2.2.2.2.2.1.length ≤ 140737488351232 ∧ F.2.2.2.2.2.2.length ≤ 140737488351232) ∧ Bs w ud F.2.1 ∧ Tv w (fun _ => True) F.2.2.2 va vs := by
      intro i hi
      obtain ⟨cs', h1, h2⟩ := hel i (by omega)
      rw [hce] at h1
      obtain ⟨_, hlen, hcell⟩ := World.cells?_some h1
      obtain ⟨F, ud, va, vs, hc, h3⟩ := trod_gact h2 (fun x hx => hlt x (List.mem_append_right _ (List.mem_flatMap.2 ⟨i, by simp; omega, hx⟩))) (fun k hk' => by
            have hm2 : k ∈ (DataW.slice ((List.range len).map D) ((List.range (m - len)).map fun j => D (len + j))).weights Tryd.prog 22 := by
              simp only [DataW.weights, hu]
              refine List.mem_cons_of_mem _ (List.mem_append_left _ (weightsAll_mem (d := D i) ?_ k hk'))
              exact List.mem_map.2 ⟨i, by simpa using hi, rfl⟩
            have := List.all_eq_true.1 hsz _ (DataW.weights_mem_each ht hd k hm2)
            simpa using this) hlen
      refine ⟨F, ud, va, vs, fun c u hcu => ?_, h3⟩
      rw [← hc] at hcu
      have hlt' : c < 49 := by
        rcases Nat.lt_or_ge c 49 with h | h
        · exact h
        · rw [List.getElem?_eq_none (by omega)] at hcu; cases hcu
      have := hcell c hlt'
      rw [add_add] at this
      exact this.trans hcu
    obtain ⟨F, hF⟩ := choose_lt (α := GA) (p := fun i F => ∃ ud va vs, (∀ c u, (gcells F ud va vs)[c]? = some u → w.cell? (a.add (i * 49 + c)) = some u) ∧ (-9223372036854775808 ≤ F.1 ∧ F.1 ≤ 9223372036854775807) ∧ wf32 F.2.2.1 ∧ (F.2.1.length ≤ 140737488351232 ∧ F.2.2.2.2.2.1.length ≤ 140737488351232 ∧ F.2.2.2.2.2.2.length ≤ 140737488351232) ∧ Bs w ud F.2.1 ∧ Tv w (fun _ => True) F.2.2.2 va vs) hfl
    refine ⟨len, F, hreach, ?_⟩
    by_cases h0 : len = 0
    · subst h0; exact .inl ⟨rfl, _, _, rfl⟩
    · right
      obtain ⟨b, off, spot⟩ := a
      have hspot : spot = none := by
        obtain ⟨ud, va, vs, hc, _⟩ := hF 0 (by omega)
        have := World.cell?_spot (hc 0 _ rfl)
        simpa [Addr.add] using this
      subst hspot
      refine ⟨by omega, b, off, cap, rfl, hlt (.cell b off) (List.mem_append_left _ (MemPlace.mem_row.2 ⟨0, ?_, by simp⟩)), fun i hi => ?_⟩
      · rw [hce]; omega
      · obtain ⟨ud, va, vs, hc, h1, h2, h3, h4, h5⟩ := hF i hi
        refine ⟨h1, h2, h3, ud, va, vs, fun c u hcu => ?_, h4, h5⟩
        rw [Nat.add_assoc, ← add_plain]; exact hc c u hcu
end
end Go.Proofs.YthpgjbblbhjndaaDoor
