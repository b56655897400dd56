/- What a walk is told of acts that came in. -/
import Derived.Test.YtmlklmhochihbaaFrLaw
import Derived.Test.YtmlklmhochihbaaRws
import Derived.Test.YtmlklmhochihbaaInner
import Derived.Test.YtmlklmhochihbaaFloatView
namespace Go.Proofs.Ytmlklmhochihbaa
open Go.ChangeShapes Go.WideShapes Go.ChangeAt Go.RowKit Go.Deep

section
variable {H : Type} {enc : TypeId × Value → H} {P : Program} {w : World} {base : Nat} {spare : Nat → Bool} {held : Bool}
theorem view_rowsB {α : Type} (d0 : α) {k : Nat} {cells : α → List Value} {ok : α → Prop} {t e : TypeId} {v : Value} {d : DataW H} {ps : List MemPlace} {r : Reach} {b0 : Nat} {ts : List TypeId} {ds : List (DataW H)} {j : Nat}
    (hu : P.underlying t = some (.slice e)) (hce : P.cellsOf e = k) (hk : 0 < k) (hbe : 1 ≤ P.bytesOf e) (hne : ∀ a, cells a ≠ [])
    (hop : ∀ m cs x, DataW.trod enc P w base spare held m e cs = some x → cs.length = k → (∀ p ∈ x.2, p.block < w.heap.size) → (∀ n ∈ x.1.weights P e, n ≤ reachBytes) → ∃ F : α, cs = cells F ∧ ok F)
    (hval : Value.okWide P w r b0 t v) (h : DataW.Trod enc P w base spare held t v d ps) (hlt : ∀ x ∈ ps, x.block < w.heap.size)
    (hsz : (DataW.weightsEach P ts ds).all (· ≤ reachBytes) = true) (ht : ts[j]? = some t) (hd : ds[j]? = some d) : ∃ n A, Rws k cells ok w v n A := by
  obtain ⟨a0, len, cap, rfl⟩ := okWide_slice hu hval
  obtain ⟨fuel, hfu⟩ := h
  rcases open_slice hu hfu with ⟨hcs, _⟩ | ⟨a, len', cap', m, n, D, Pl, hcs, _, hl, hm, hmm, hx, hel⟩
  · simp [Value.cells] at hcs
    obtain ⟨rfl, rfl, rfl⟩ := hcs
    exact ⟨0, fun _ => d0, by omega, .inl ⟨rfl, _, _, rfl⟩⟩
  · simp [Value.cells] at hcs
    obtain ⟨rfl, rfl, rfl⟩ := hcs
    simp only [Prod.mk.injEq] at hx
    obtain ⟨rfl, rfl⟩ := hx
    have hlm : len ≤ m := by rw [hmm]; split <;> omega
    have hreach : len ≤ 140737488351232 := by
      have h1 := sized_slice hsz ht hd hu
      simp only [List.length_map, List.length_range, reachBytes] at h1
      have h2 : len + (m - len) ≤ (len + (m - len)) * P.bytesOf e := Nat.le_mul_of_pos_right _ hbe
      omega
    have hfl : ∀ i, i < len → ∃ F : α, (∀ c u, (cells F)[c]? = some u → w.cell? (a.add (i * k + c)) = some u) ∧ ok F := by
      intro i hi
      obtain ⟨cs', h1, h2⟩ := hel i (by omega)
      rw [hce] at h1
      obtain ⟨_, hlen, hcell⟩ := World.cells?_some h1
      obtain ⟨F, hc, h3⟩ := hop _ _ _ h2 hlen (fun x hx => hlt x (List.mem_append_right _ (List.mem_flatMap.2 ⟨i, by simp; omega, hx⟩))) (fun n' hk' => by
        have hm2 : n' ∈ (DataW.slice ((List.range len).map D) ((List.range (m - len)).map fun j => D (len + j))).weights P t := by
          simp only [DataW.weights, hu]
          refine List.mem_cons_of_mem _ (List.mem_append_left _ (dweightsAll_mem (d := D i) ?_ n' hk'))
          exact List.mem_map.2 ⟨i, by simpa using hi, rfl⟩
        have := List.all_eq_true.1 hsz _ (DataW.weights_mem_each ht hd n' hm2)
        simpa using this)
      refine ⟨F, fun c u hcu => ?_, h3⟩
      rw [← hc] at hcu
      have hlt' : c < k := by
        rcases Nat.lt_or_ge c k with h | h
        · exact h
        · rw [List.getElem?_eq_none (by omega)] at hcu; cases hcu
      have := hcell c hlt'
      rw [add_add] at this
      exact this.trans hcu
    haveI : Inhabited α := ⟨d0⟩
    obtain ⟨F, hF⟩ := choose_lt (α := α) (p := fun i F => (∀ c u, (cells F)[c]? = some u → w.cell? (a.add (i * k + c)) = some u) ∧ ok F) hfl
    refine ⟨len, F, hreach, ?_⟩
    by_cases h0 : len = 0
    · subst h0; exact .inl ⟨rfl, _, _, rfl⟩
    · right
      obtain ⟨b, off, spot⟩ := a
      have hspot : spot = none := by
        obtain ⟨hc, _⟩ := hF 0 (by omega)
        obtain ⟨u, hu0⟩ : ∃ u, (cells (F 0))[0]? = some u := by
          cases hq : cells (F 0) with
          | nil => exact absurd hq (hne _)
          | cons x l => exact ⟨x, rfl⟩
        have := World.cell?_spot (hc 0 _ hu0)
        simpa [Addr.add] using this
      subst hspot
      refine ⟨by omega, b, off, cap, rfl, hl, hlt (.cell b off) (List.mem_append_left _ (MemPlace.mem_row.2 ⟨0, ?_, by simp⟩)), fun i hi => ?_⟩
      · rw [hce]
        exact Nat.mul_pos (by omega) hk
      · obtain ⟨hc, h1⟩ := hF i hi
        refine ⟨h1, fun c u hcu => ?_⟩
        rw [Nat.add_assoc, ← add_plain]; exact hc c u hcu
end
structure FA where
  kind : Int
  task : Int
  key : Int
  v : Value
  bs : List Nat
  wr : Bool
  y : Nat
def fac (a : FA) : List Value := [.int .i64 a.kind, .int .i64 a.task, .int .i64 a.key, a.v, .bool a.wr, .float .f64 a.y]
structure FA.ok (w : World) (a : FA) : Prop where
  kind : i64 a.kind
  task : i64 a.task
  key : i64 a.key
  bs : Bs w a.v a.bs
  len : a.bs.length ≤ 140737488351232
abbrev FActs (w0 w : World) (v : Value) (n : Nat) (A : Nat → FA) : Prop := Rws 6 fac (FA.ok w0) w v n A
section
variable {H : Type} {enc : TypeId × Value → H} {w : World} {base : Nat} {spare : Nat → Bool} {held : Bool}
theorem wfJ {z : Int} (h : (Lit.int .i64 z).wf = true) : i64 z := by
  have h1 : IntKind.i64.min ≤ z ∧ z ≤ IntKind.i64.max := by simpa [Lit.wf, go_sem] using h
  exact h1
set_option maxRecDepth 100000 in
theorem trod_fa {m : Nat} {cs : List Value} {x : DataW H × List MemPlace} (h : DataW.trod enc Try.prog w base spare held m 34 cs = some x) (hl : cs.length = 6) (hlt : ∀ p ∈ x.2, p.block < w.heap.size) (hsz : ∀ n ∈ x.1.weights Try.prog 34, n ≤ reachBytes) : ∃ F : FA, cs = fac F ∧ F.ok w := by
  obtain ⟨d, ps⟩ := x
  obtain ⟨xs, nn, _, hx, _, hxl, hf⟩ := DataW.trod_struct Try.underlying34 h
  simp only [Prod.mk.injEq] at hx
  obtain ⟨hD, hP⟩ := hx
  match xs, hxl with
  | [x0, x1, x2, x3, x4, x5], _ =>
    have c1 : Try.prog.cellsOf 3 = 1 := by kernel_rfl
    have cs1 : Try.prog.cellsOf 31 = 1 := by kernel_rfl
    have cb : Try.prog.cellsOf 4 = 1 := by kernel_rfl
    have cf : Try.prog.cellsOf 32 = 1 := by kernel_rfl
    have g0 : DataW.trod enc Try.prog w base spare held nn 3 ((cs.drop 0).take (Try.prog.cellsOf 3)) = some x0 := hf 0 _ rfl
    have g1 : DataW.trod enc Try.prog w base spare held nn 3 ((cs.drop 1).take (Try.prog.cellsOf 3)) = some x1 := hf 1 _ rfl
    have g2 : DataW.trod enc Try.prog w base spare held nn 3 ((cs.drop 2).take (Try.prog.cellsOf 3)) = some x2 := hf 2 _ rfl
    have g3 : DataW.trod enc Try.prog w base spare held nn 31 ((cs.drop 3).take (Try.prog.cellsOf 31)) = some x3 := hf 3 _ rfl
    have g4 : DataW.trod enc Try.prog w base spare held nn 4 ((cs.drop 4).take (Try.prog.cellsOf 4)) = some x4 := hf 4 _ rfl
    have g5 : DataW.trod enc Try.prog w base spare held nn 32 ((cs.drop 5).take (Try.prog.cellsOf 32)) = some x5 := hf 5 _ rfl
    rw [c1] at g0 g1 g2
    rw [cs1] at g3
    rw [cb] at g4
    rw [cf] at g5
    match cs, hl with
    | [a0, a1, a2, p, q, r], _ =>
      have g0' : DataW.trod enc Try.prog w base spare held nn 3 [a0] = some x0 := g0
      have g1' : DataW.trod enc Try.prog w base spare held nn 3 [a1] = some x1 := g1
      have g2' : DataW.trod enc Try.prog w base spare held nn 3 [a2] = some x2 := g2
      have g3' : DataW.trod enc Try.prog w base spare held nn 31 [p] = some (x3.1, x3.2) := g3
      have g4' : DataW.trod enc Try.prog w base spare held nn 4 [q] = some x4 := g4
      have g5' : DataW.trod enc Try.prog w base spare held nn 32 [r] = some x5 := g5
      obtain ⟨z0, hz0, _, w0⟩ := DataW.trod_int Try.underlying3 g0'
      obtain ⟨z1, hz1, _, w1⟩ := DataW.trod_int Try.underlying3 g1'
      obtain ⟨z2, hz2, _, w2⟩ := DataW.trod_int Try.underlying3 g2'
      obtain ⟨z4, hz4, _⟩ := DataW.trod_bool Try.underlying4 g4'
      obtain ⟨z5, hz5, _, w5⟩ := trod_float Try.underlying32 g5'
      have hin : ∀ (j : Nat) (t : TypeId) (dd : DataW H), ([3, 3, 3, 31, 4, 32] : List TypeId)[j]? = some t → ([x0.1, x1.1, x2.1, x3.1, x4.1, x5.1] : List (DataW H))[j]? = some dd → ∀ k ∈ dd.weights Try.prog t, k ≤ reachBytes := fun j t dd hj hdd k hk => by
        refine hsz k ?_
        rw [hD]
        simp only [DataW.weights, Try.underlying34]
        exact DataW.weights_mem_each (j := j) hj hdd k hk
      obtain ⟨zd, hbd, hbl⟩ := dview_inner Try.underlying31 Try.underlying5 (by kernel_rfl) (by kernel_rfl) g3' (fun x hx => hlt x (by rw [hP]; simp [hx])) (hin 3 _ _ rfl rfl)
      simp only [List.cons.injEq, and_true] at hz0 hz1 hz2 hz4 hz5
      exact ⟨⟨z0, z1, z2, p, zd, z4, z5⟩, by rw [hz0, hz1, hz2, hz4, hz5]; rfl, wfJ w0, wfJ w1, wfJ w2, hbd, hbl⟩
set_option maxRecDepth 100000 in
theorem view_facts {v : Value} {d : DataW H} {ps : List MemPlace} {r : Reach} {b0 : Nat} {ts : List TypeId} {ds : List (DataW H)} {j : Nat}
    (hval : Value.okWide Try.prog w r b0 22 v) (h : DataW.Trod enc Try.prog w base spare held 22 v d ps) (hlt : ∀ x ∈ ps, x.block < w.heap.size)
    (hsz : (DataW.weightsEach Try.prog ts ds).all (· ≤ reachBytes) = true) (ht : ts[j]? = some 22) (hd : ds[j]? = some d) : ∃ n A, FActs w w v n A :=
  view_rowsB (⟨0, 0, 0, .slice none 0 0, [], false, 0⟩ : FA) Try.underlying22 (by kernel_rfl) (by decide) (of_decide_eq_true (by kernel_rfl)) (fun a h => by cases h) (fun m cs x h1 h2 h3 h4 => trod_fa h1 h2 h3 h4) hval h hlt hsz ht hd
end
/-- Is none of the first ones great? -/
def FSmall (n : Nat) (A : Nat → FA) : Prop := ∀ i, i < n → i < 120 → (A i).bs.length ≤ 1000
set_option maxRecDepth 100000 in
set_option maxHeartbeats 1000000 in
theorem fgreat_any {w : World} {v : Value} {n : Nat} {A : Nat → FA} (h : FActs w w v n A) : Calls Try.prog 8 #[v] w fun e w' => w' = w ∧ (e = .returned (.bool true) ∨ (e = .returned (.bool false) ∧ FSmall n A)) := by
  have HH := Hid.mk' h
  have hn := h.1
  obtain ⟨ao, cap, rfl⟩ := h.len
  have hni : (n : Int) ≤ 140737488351232 := by omega
  clear h hn
  go_enter Try.func8, Try.ntmps8
  go_wp2
  go_loopw [3] (fun iv wr => ∃ i : Nat, i ≤ n ∧ i ≤ 120 ∧ iv = .int .i64 i ∧ (∀ j, j < i → (A j).bs.length ≤ 1000) ∧ wr = w) (fun iv _ => n - (Go.RowKit.intOf iv).toNat)
  case atStart => exact ⟨0, Nat.zero_le _, Nat.zero_le _, rfl, fun j hj => absurd hj (by omega), rfl⟩
  case round =>
    obtain ⟨i, hin, hi0, rfl, hne, rfl⟩ := hrel
    have HNE := Hid.mk' hne
    clear hne
    by_cases hlt : i < n ∧ i < 120
    · have hlti : (i : Int) < (n : Int) := by omega
      have hlt2 : (i : Int) < 120 := by omega
      obtain ⟨b, off, cap', e1, -, hA⟩ := HH.out.at hlt.1
      simp only [Value.slice.injEq] at e1
      obtain ⟨rfl, -, rfl⟩ := e1
      obtain ⟨hok, hcell⟩ := hA i hlt.1
      obtain ⟨vo, vc, hvl, -⟩ := hok.bs.gen
      have c3 : wr.cell? ⟨b, off + i * 6 + 3, none⟩ = some (.slice vo (A i).bs.length vc) := by rw [← hvl]; exact hcell 3 _ rfl
      have HNX : Hid ((A i).bs.length ≤ 1000 → ∀ j, j < i + 1 → (A j).bs.length ≤ 1000) := fun hk j hj => by
        by_cases e : j < i
        · exact HNE.out j e
        · rw [show j = i by omega]; exact hk
      generalize (A i).bs.length = L at *
      clear hA hok hcell hvl
      by_cases hL : L ≤ 1000
      · have hLi : ¬ (1000 < (L : Int)) := by omega
        have HN2 := Hid.mk' (HNX.out hL)
        clear hL
        go_wp2
        exact ⟨⟨i + 1, by omega, by omega, by go_num, HN2.out, by first | rfl | trivial⟩, by simp [Go.RowKit.intOf]; omega⟩
      · have hLi : 1000 < (L : Int) := by omega
        clear hL
        go_wp2
        go_ret
        exact ⟨rfl, .inl rfl⟩
    · have HFS : Hid (FSmall n A) := fun j hj1 hj2 => HNE.out j (by omega)
      by_cases h1 : i < n
      · have hlti : (i : Int) < (n : Int) := by omega
        have hlt2 : ¬ ((i : Int) < 120) := by omega
        go_wp2
        go_ret
        exact ⟨rfl, .inr ⟨rfl, HFS.out⟩⟩
      · have hlti : ¬ ((i : Int) < (n : Int)) := by omega
        go_wp2
        go_ret
        exact ⟨rfl, .inr ⟨rfl, HFS.out⟩⟩
end Go.Proofs.Ytmlklmhochihbaa
