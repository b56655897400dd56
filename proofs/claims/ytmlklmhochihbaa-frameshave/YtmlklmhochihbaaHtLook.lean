/- The reference's heats as a list: which heat a key has. -/
import Derived.Test.YtmlklmhochihbaaHtCold
namespace Go.Proofs.Ytmlklmhochihbaa
open Go.RowKit

abbrev Sp := Int × Nat × Nat
def spc (e : Sp) : List Value := [.int .i64 e.1, .float .f64 e.2.1, .int .i64 (e.2.2 : Int)]
theorem spc_len (e : Sp) : (spc e).length = 3 := rfl
/-- Of a list the first one of a key. -/
def look (L : List Sp) : Tb := fun k => (L.find? (fun e => e.1 == k)).map (·.2)
section
variable {L : List Sp}
theorem look_at {K : Int} {i : Nat} (hi : i < L.length) (hk : (L.getD i (0, 0, 0)).1 = K) (hn : ∀ j, j < i → (L.getD j (0, 0, 0)).1 ≠ K) : look L K = some (L.getD i (0, 0, 0)).2 := by
  unfold look
  have h : List.find? (fun e : Sp => e.1 == K) L = some (L.getD i (0, 0, 0)) := by
    rw [List.find?_eq_some_iff_getElem]
    refine ⟨by simpa using hk, i, hi, ?_, fun j hj => ?_⟩
    · rw [List.getD_eq_getElem?_getD, List.getElem?_eq_getElem hi]; rfl
    · have := hn j hj
      rw [List.getD_eq_getElem?_getD, List.getElem?_eq_getElem (by omega)] at this
      simpa using this
  rw [h]
  rfl
theorem look_none' {K : Int} (hn : ∀ j, j < L.length → (L.getD j (0, 0, 0)).1 ≠ K) : look L K = none := by
  unfold look
  rw [List.find?_eq_none.2]
  · rfl
  · intro e he
    obtain ⟨j, hj, rfl⟩ := List.getElem_of_mem he
    have := hn j hj
    rw [List.getD_eq_getElem?_getD, List.getElem?_eq_getElem hj] at this
    simpa using this
theorem look_drop (L : List Sp) (K k : Int) : look (L.filter (fun e => !(e.1 == K))) k = tdrop (look L) K k := by
  unfold look tdrop
  rw [List.find?_filter]
  by_cases hk : k = K
  · rw [if_pos hk, List.find?_eq_none.2]
    · rfl
    · intro e he; subst hk; simp
  · rw [if_neg hk]
    congr 1
    congr 1
    funext e
    by_cases h : e.1 = k
    · simp [h, hk]
    · simp [h]
theorem look_put (L : List Sp) (K k : Int) (x t : Nat) : look (L.filter (fun e => !(e.1 == K)) ++ [(K, x, t)]) k = tput (look L) K x t k := by
  have h := look_drop L K k
  unfold look at h ⊢
  rw [List.find?_append]
  unfold tput
  by_cases hk : k = K
  · rw [if_pos hk, List.find?_eq_none.2]
    · subst hk; simp
    · intro e he
      have := (List.mem_filter.1 he).2
      subst hk
      simpa using this
  · rw [if_neg hk]
    unfold tdrop at h
    rw [if_neg hk] at h
    rw [← h]
    have e2 : (List.find? (fun e : Sp => e.1 == k) [(K, x, t)]) = none := by
      simp; exact fun e => hk e.symm
    rw [e2, Option.or_none]
end
theorem wpList_someH {ops : Array Oper} {rest : List Oper} {o : Oper} {a : Act} {w : World} {Q : Exit → Act → World → Prop} {Φ : Value → World → Prop} (hgd : o.guard = none) (hr : ∃ v w', (execOp a.eval o).run Try.prog w = .ok (.value v) w' ∧ Φ v w') (h : ∀ v w', Φ v w' → wpList Try.prog ops Q rest (a.put o.dst v) w') : wpList Try.prog ops Q (o :: rest) a w := by
  obtain ⟨v, w', h1, h2⟩ := hr
  exact wpList_runH hgd h1 (h v w' h2)
theorem infSp : (Try.prog.info? 107).map (fun i => (i.zero, i.size, i.bytes)) = some (some (.agg #[.int .i64 0, .float .f64 0, .int .i64 0]), 3, 24) := by kernel_rfl
theorem iSp : (Try.prog.info? 107).map (·.size) = some 3 := by kernel_rfl
theorem spc_one (e : Sp) : ∀ u ∈ spc e, u.oneCell' = true := by
  intro u hu
  unfold spc at hu
  rcases List.mem_cons.1 hu with rfl | hu
  · rfl
  rcases List.mem_cons.1 hu with rfl | hu
  · rfl
  rcases List.mem_cons.1 hu with rfl | hu
  · rfl
  · cases hu
theorem built_sp (K : Int) (x t : Nat) (w : World) : (Instr.build 107 #[(0, .int .i64 K), (1, .float .f64 x), (2, .int .i64 (t : Int))]).run Try.prog w = .ok (.agg #[.int .i64 K, .float .f64 x, .int .i64 (t : Int)]) w := run_build w _ _ _ (by kernel_rfl)
/-- One more. -/
def touched (half now : Nat) (L : List Sp) (K : Int) (y : Nat) : List Sp := L.filter (fun e => !(e.1 == K)) ++ [(K, radd (hof half (now + 1) (look L) K) y, now + 1)]
theorem touched_len (half now : Nat) (L : List Sp) (K : Int) (y : Nat) (h : L.length ≤ now) : (touched half now L K y).length ≤ now + 1 := by
  unfold touched
  rw [List.length_append, List.length_singleton]
  have := List.length_filter_le (fun e : Sp => !(e.1 == K)) L
  omega
theorem look_touched (half now : Nat) (L : List Sp) (K : Int) (y : Nat) : look (touched half now L K y) = ttouch half now (look L) K y := by
  funext k
  unfold touched ttouch
  exact look_put L K k _ _
theorem look_dropped (L : List Sp) (K : Int) : look (L.filter (fun e => !(e.1 == K))) = tdrop (look L) K := by
  funext k
  exact look_drop L K k
end Go.Proofs.Ytmlklmhochihbaa
