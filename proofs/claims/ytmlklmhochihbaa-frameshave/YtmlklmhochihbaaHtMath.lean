/- Heats as numbers: brought right, added, faded; a table of them; which key is coldest. -/
import Derived.Test.YtmlklmhochihbaaRealFd
import Derived.Laws.FloatArith
namespace Go.Proofs.Ytmlklmhochihbaa
open Go.RowKit

/-- Brought right. -/
def rt (b : Nat) : Nat := if nn b || mg b == 0 then 0 else b
/-- Added, and brought right. -/
def radd (x y : Nat) : Nat := match Ieee.double.add x y with
  | some r => rt r
  | none => 0
theorem rt_lt {b : Nat} (h : b < 18446744073709551616) : rt b < 18446744073709551616 := by unfold rt; split <;> omega
theorem radd_lt (x y : Nat) : radd x y < 18446744073709551616 := by
  unfold radd
  split
  · rename_i r h
    exact rt_lt (Ieee.Format.add_lt _ h)
  · omega
theorem rt_ok (b : Nat) : nn (rt b) = false ∧ (mg (rt b) = 0 → rt b = 0) := by
  unfold rt
  by_cases h : (nn b || mg b == 0) = true
  · rw [if_pos h]; exact ⟨rfl, fun _ => rfl⟩
  · rw [if_neg h]
    simp only [Bool.or_eq_true, not_or, beq_iff_eq, Bool.not_eq_true] at h
    exact ⟨h.1, fun e => absurd e h.2⟩
theorem rt_rt (b : Nat) : rt (rt b) = rt b := by
  obtain ⟨h1, h2⟩ := rt_ok b
  by_cases h : mg (rt b) = 0
  · rw [h2 h]; rfl
  · unfold rt at h h1 ⊢
    split
    · rfl
    · rfl
theorem rt_zero : rt 0 = 0 := rfl
/-- A sum, as the model makes it: where it is none, any number that is no number. -/
theorem add_run (t : TypeId) (x y : Nat) (w : World) : ∃ r w', (binOp .add t (.float .f64 x) (.float .f64 y)).run Try.prog w = .ok (.float .f64 r) w' ∧ r < 18446744073709551616 ∧ rt r = radd x y ∧ (w' = w ∨ w' = w.drew) := by
  cases h : Ieee.double.add x y with
  | some r =>
    refine ⟨r, w, run_float_arith w .add t .f64 x y r h, Ieee.Format.add_lt _ h, ?_, .inl rfl⟩
    unfold radd; rw [h]
  | none =>
    have h' : FloatKind.f64.format.add x y = none := h
    have hq : ∃ n, (choose (.nanBits .f64 x y)).run Try.prog w = .ok n w.drew ∧ ∃ t, n = (t % 2) * 2 ^ 63 + 0x7ff0000000000000 + 1 + (t / 2) % (2 ^ 52 - 1) := by
      refine ⟨_, rfl, w.tape w.drawn (.nanBits .f64 x y), rfl⟩
    obtain ⟨n, hn, s, hs⟩ := hq
    obtain ⟨q, hq, hr⟩ : ∃ q, q < 2 ^ 52 - 1 ∧ (n = 0x7ff0000000000000 + 1 + q ∨ n = 2 ^ 63 + 0x7ff0000000000000 + 1 + q) := by
      refine ⟨(s / 2) % (2 ^ 52 - 1), Nat.mod_lt _ (by decide), ?_⟩
      generalize (s / 2) % (2 ^ 52 - 1) = q at *
      rcases Nat.mod_two_eq_zero_or_one s with e | e <;> rw [e] at hs <;> omega
    clear hs
    refine ⟨n, w.drew, ?_, by omega, ?_, .inr rfl⟩
    · have e : (if (Question.nanBits FloatKind.f64 x y).forced = true then Result.ok 0 w else Result.ok ((Question.nanBits FloatKind.f64 x y).cut (w.tape w.drawn (Question.nanBits FloatKind.f64 x y))) w.drew) = Result.ok n w.drew := hn
      simp [binOp, Op.floatArith, h', Result.andThen, e]
    · unfold radd rt; rw [h]
      have : nn n = true := by rw [nn_true]; unfold mg; omega
      simp [this]

/-- A table: of a key its heat, and when it was told. -/
abbrev Tb := Int → Option (Nat × Nat)
def hof (half now : Nat) (T : Tb) (k : Int) : Nat := match T k with
  | some (b, t) => rt (fd b ((now - t) / half))
  | none => 0
def tdrop (T : Tb) (k : Int) : Tb := fun j => if j = k then none else T j
def tput (T : Tb) (k : Int) (x t : Nat) : Tb := fun j => if j = k then some (x, t) else T j
def tnone : Tb := fun _ => none
def ttouch (half now : Nat) (T : Tb) (k : Int) (y : Nat) : Tb := tput T k (radd (hof half (now + 1) T k) y) (now + 1)
structure Tok (now : Nat) (T : Tb) : Prop where
  lt : ∀ k b t, T k = some (b, t) → b < 18446744073709551616 ∧ t ≤ now
theorem Tok.none (now : Nat) : Tok now tnone := ⟨fun k b t h => by cases h⟩
theorem Tok.drop {now : Nat} {T : Tb} (h : Tok now T) (k : Int) : Tok now (tdrop T k) := ⟨fun j b t e => by
  unfold tdrop at e
  split at e
  · cases e
  · exact h.lt j b t e⟩
theorem Tok.put {now x : Nat} {T : Tb} (h : Tok now T) (k : Int) (hx : x < 18446744073709551616) : Tok (now + 1) (tput T k x (now + 1)) := ⟨fun j b t e => by
  unfold tput at e
  split at e
  · cases e; exact ⟨hx, Nat.le_refl _⟩
  · have := h.lt j b t e
    exact ⟨this.1, by omega⟩⟩
theorem Tok.touch {half now : Nat} {T : Tb} (h : Tok now T) (k : Int) (y : Nat) : Tok (now + 1) (ttouch half now T k y) := h.put k (radd_lt _ _)
theorem Tok.on {now : Nat} {T : Tb} (h : Tok now T) : Tok (now + 1) T := ⟨fun k b t e => by have := h.lt k b t e; exact ⟨this.1, by omega⟩⟩
theorem hof_lt {half now : Nat} {T : Tb} (h : Tok now T) (k : Int) : hof half now T k < 18446744073709551616 := by
  unfold hof
  split
  · rename_i b t e
    exact rt_lt (fd_lt _ _ (h.lt k b t e).1)
  · omega
theorem hof_ok (half now : Nat) (T : Tb) (k : Int) : nn (hof half now T k) = false ∧ (mg (hof half now T k) = 0 → hof half now T k = 0) := by
  unfold hof
  split
  · exact rt_ok _
  · exact ⟨rfl, fun _ => rfl⟩
theorem fd_nought (n : Nat) : fd 0 n = 0 := by
  rw [fd_num 0 n (by decide)]
  have : mg 0 = 0 := rfl
  rw [this, hfi_zero]; rfl
/-- Which of two is colder. -/
def colder (H : Int → Nat) (k b : Int) : Bool := ls (H k) (H b) || (sa (H k) (H b) && decide (k < b))
def coldest (H : Int → Nat) : List Int → Int
  | [] => 0
  | k :: ks => ks.foldl (fun b k => if colder H k b then k else b) k
theorem colder_prog (H : Int → Nat) (k b : Int) : (ls (H k) (H b) || (decide (k < b) && !ls (H b) (H k))) = colder H k b := by
  unfold colder ls sa
  rw [Bool.eq_iff_iff]
  simp
  omega
theorem coldest_next (H : Int → Nat) (ks : List Int) (i : Nat) (h1 : 0 < i) (h : i < ks.length) : coldest H (ks.take (i + 1)) = if colder H (ks.getD i 0) (coldest H (ks.take i)) then ks.getD i 0 else coldest H (ks.take i) := by
  cases ks with
  | nil => simp at h
  | cons k ks =>
    obtain ⟨j, rfl⟩ : ∃ j, i = j + 1 := ⟨i - 1, by omega⟩
    rw [List.take_succ_cons, List.take_succ_cons]
    have hj : j < ks.length := by simpa using h
    show (ks.take (j + 1)).foldl (fun b k => if colder H k b then k else b) k = if colder H ((k :: ks).getD (j + 1) 0) ((ks.take j).foldl (fun b k => if colder H k b then k else b) k) then (k :: ks).getD (j + 1) 0 else (ks.take j).foldl (fun b k => if colder H k b then k else b) k
    rw [List.take_succ_eq_append_getElem hj, List.foldl_append]
    simp [List.getD, hj]
theorem coldest_cons (H : Int → Nat) (k y : Int) (r : List Int) : coldest H (k :: y :: r) = coldest H ((if colder H y k then y else k) :: r) := rfl
theorem coldest_mem (H : Int → Nat) : ∀ ks : List Int, ks ≠ [] → coldest H ks ∈ ks := by
  intro ks hne
  cases ks with
  | nil => exact absurd rfl hne
  | cons k ks =>
    clear hne
    induction ks generalizing k with
    | nil => exact List.mem_cons_self
    | cons x r ih =>
      rw [coldest_cons]
      split
      · exact List.mem_cons_of_mem _ (ih x)
      · rcases List.mem_cons.1 (ih k) with e | e
        · rw [e]; exact List.mem_cons_self
        · exact List.mem_cons_of_mem _ (List.mem_cons_of_mem _ e)
theorem coldest_le (H : Int → Nat) : ∀ ks : List Int, ∀ x ∈ ks, rk (H (coldest H ks)) ≤ rk (H x) := by
  intro ks
  cases ks with
  | nil => intro x hx; cases hx
  | cons k ks =>
    induction ks generalizing k with
    | nil => intro x hx; rw [show x = k by simpa using hx]; exact Int.le_refl _
    | cons y r ih =>
      intro x hx
      rw [coldest_cons]
      by_cases hc : colder H y k = true
      · rw [if_pos hc]
        have hyk : rk (H y) ≤ rk (H k) := by
          unfold colder ls sa at hc
          simp at hc
          omega
        rcases List.mem_cons.1 hx with rfl | hx
        · exact Int.le_trans (ih y y List.mem_cons_self) hyk
        · exact ih y x hx
      · rw [if_neg hc]
        have hyk : rk (H k) ≤ rk (H y) := by
          unfold colder ls sa at hc
          simp at hc
          omega
        rcases List.mem_cons.1 hx with rfl | hx
        · exact ih _ _ List.mem_cons_self
        · rcases List.mem_cons.1 hx with rfl | hx
          · exact Int.le_trans (ih k k List.mem_cons_self) hyk
          · exact ih k x (List.mem_cons_of_mem _ hx)
/-- The least key. -/
theorem coldest_zero (ks : List Int) : ∀ x ∈ ks, coldest (fun _ => 0) ks ≤ x := by
  cases ks with
  | nil => intro x hx; cases hx
  | cons k ks =>
    have hc : ∀ a b : Int, colder (fun _ => 0) a b = decide (a < b) := fun a b => by unfold colder; simp [ls_irrefl, sa_refl]
    induction ks generalizing k with
    | nil => intro x hx; rw [show x = k by simpa using hx]; exact Int.le_refl _
    | cons y r ih =>
      intro x hx
      rw [coldest_cons, hc]
      by_cases h : y < k
      · rw [if_pos (by simpa using h)]
        rcases List.mem_cons.1 hx with rfl | hx
        · exact Int.le_trans (ih y y List.mem_cons_self) (by omega)
        · exact ih y x hx
      · rw [if_neg (by simpa using h)]
        rcases List.mem_cons.1 hx with rfl | hx
        · exact ih _ _ List.mem_cons_self
        · rcases List.mem_cons.1 hx with rfl | hx
          · exact Int.le_trans (ih k k List.mem_cons_self) (by omega)
          · exact ih k x (List.mem_cons_of_mem _ hx)
/-- Halving keeps the order. -/
theorem hf_mono {a b : Nat} (h : a ≤ b) : hf a ≤ hf b := by
  unfold hf
  split <;> split <;> (try split) <;> (try split) <;> omega
theorem hfi_mono (k : Nat) {a b : Nat} (h : a ≤ b) : hfi k a ≤ hfi k b := by
  induction k generalizing a b with
  | zero => exact h
  | succ k ih => rw [hfi_succ, hfi_succ]; exact hf_mono (ih h)
end Go.Proofs.Ytmlklmhochihbaa
