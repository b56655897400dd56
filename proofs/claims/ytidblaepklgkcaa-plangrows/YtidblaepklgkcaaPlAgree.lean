/- The reference's Parent and the program's agree, of plans that Of made. -/
import Derived.Test.YtidblaepklgkcaaPlTree
import Derived.Test.YtidblaepklgkcaaPlRPar
namespace Go.Proofs.Ytidblaepklgkcaa
open Go.RowKit

theorem foldl_sm : ∀ (l : List Int) (a : Int), l.foldl (· + ·) a = a + sm l
  | [], a => by show a = a + 0; omega
  | x :: l, a => by
    rw [List.foldl_cons, foldl_sm l (a + x)]
    show a + x + sm l = a + (x + sm l)
    omega
theorem sumI_sm (l : List Int) : sumI l = sm l := by
  unfold sumI
  rw [foldl_sm, Int.zero_add]
theorem sm_take : ∀ {l : List Int}, (∀ a ∈ l, 1 ≤ a) → ∀ i, 0 ≤ sm (l.take i) ∧ sm (l.take i) ≤ sm l
  | [], _, i => by rw [List.take_nil]; exact ⟨Int.le_refl _, Int.le_refl _⟩
  | x :: l, h, 0 => by
    have hs := (sm_take (fun a ha => h a (List.mem_cons_of_mem _ ha)) 0 : 0 ≤ sm (l.take 0) ∧ sm (l.take 0) ≤ sm l)
    have := h x List.mem_cons_self
    refine ⟨Int.le_refl _, ?_⟩
    show 0 ≤ x + sm l
    omega
  | x :: l, h, i + 1 => by
    have hs := sm_take (fun a ha => h a (List.mem_cons_of_mem _ ha)) i
    have := h x List.mem_cons_self
    rw [List.take_succ_cons]
    refine ⟨?_, ?_⟩
    · show 0 ≤ x + sm (l.take i); omega
    · show x + sm (l.take i) ≤ x + sm l; omega
theorem sm_mem : ∀ {l : List Int}, (∀ a ∈ l, 1 ≤ a) → ∀ a ∈ l, a ≤ sm l
  | x :: l, h, a, ha => by
    have hl : ∀ a ∈ l, 1 ≤ a := fun a ha => h a (List.mem_cons_of_mem _ ha)
    have h0 := (sm_take hl 0)
    have hp := h x List.mem_cons_self
    have h00 : 0 ≤ sm l := Int.le_trans h0.1 h0.2
    show a ≤ x + sm l
    rcases List.mem_cons.1 ha with rfl | ha
    · omega
    · have := sm_mem hl a ha
      omega
theorem Mad.good {p : Pn} (h : Mad p) : p.good := by
  have hl := (h.lv.pos h.c1.1).1
  have hs := h.sum
  refine ⟨by have := h.len; omega, fun x hx => ?_, fun i => ?_⟩
  · unfold Pn.all at hx
    rcases List.mem_cons.1 hx with rfl | hx
    · have := h.pg; omega
    · rcases List.mem_cons.1 hx with rfl | hx
      · have := h.c1; omega
      · have := hl x hx
        have := sm_mem hl x hx
        omega
  · rw [sumI_sm]
    have := sm_take hl i
    omega
/-- The reference's answer out of a level's number. -/
def out (p : Pn) (q : Int × Int) : Pc := if q.1 < 0 then ⟨0, 0, 1⟩ else if q.1 = (p.levels.length : Int) + 1 then ⟨0, 0, 5⟩ else ⟨p.first (q.1 + 1).toNat + q.2 / 8, q.2 % 8, 0⟩
theorem go_eq {p : Pn} {x t : Int} (hx : x ≤ 9223372036854775807) : ∀ (ls : List Int) (i : Nat) (f m : Int), 0 ≤ f → f ≤ x → 1 ≤ m → LvC m ls → f + m + sm ls ≤ 1000000 → t = f + m + sm ls - 1 → i + ls.length = p.levels.length + 1 → 1 ≤ i →
    (∀ j, j < ls.length → p.first (i + 1 + j) = f + m + sm (ls.take j)) → parGo x t f m ls = out p (levGo i (x - f) (m :: ls))
  | [], i, f, m, hf, hfx, hm, hl, hs, ht, hi, hi1, hfr => by
    have hm1 : m = 1 := hl
    unfold sm at hs ht
    by_cases he : x = t
    · rw [parGo_nil, if_pos he, levGo_cons, if_neg (by omega), if_pos (by omega)]
      unfold out
      dsimp only
      rw [if_neg (by omega), if_pos (by simp at hi; omega)]
    · rw [parGo_nil, if_neg he, levGo_cons, if_neg (by omega), if_neg (by omega)]
      rfl
  | a :: ls, i, f, m, hf, hfx, hm, hl, hs, ht, hi, hi1, hfr => by
    obtain ⟨h1, h2⟩ := hl
    have h3 := LvC.pos (by omega) h2
    unfold sm at hs ht
    rw [levGo_cons, if_neg (by omega)]
    rw [List.length_cons] at hi
    by_cases hin : x - f < m
    · rw [if_pos hin, parGo_in hf hfx (by omega) (by omega)]
      unfold out
      dsimp only
      rw [if_neg (by omega), if_neg (by omega)]
      have h5 := hfr 0 (by simp)
      rw [show ((i : Int) + 1).toNat = i + 1 + 0 by omega, h5]
      show _ = (⟨f + m + 0 + (x - f) / 8, (x - f) % 8, 0⟩ : Pc)
      rw [Int.add_zero]
    · rw [if_neg hin, parGo_skip hf (by omega) (by omega) hx]
      have h6 := go_eq (p := p) (t := t) hx ls (i + 1) (f + m) a (by omega) (by omega) (by omega) h2 (by omega) (by omega) (by omega) (by omega) (fun j hj => by
        have h7 := hfr (j + 1) (by rw [List.length_cons]; omega)
        rw [List.take_succ_cons] at h7
        unfold sm at h7
        rw [show i + 1 + 1 + j = i + 1 + (j + 1) by omega, h7]
        omega)
      rw [h6, show x - (f + m) = x - f - m by omega]
      rfl
theorem Mad.rpar {p : Pn} (h : Mad p) {x : Int} (hx : i64 x) : p.rpar x = p.par x := by
  have hpg := h.pg
  have hc := h.c1
  have hs := h.sum
  have ht := h.top
  unfold Pn.rpar Pn.lev Pn.all
  by_cases h0 : x < 0
  · rw [levGo_neg h0]
    unfold Pn.par
    rw [if_pos h0]
    rfl
  · by_cases h1 : x < p.pages
    · rw [h.par_pg (by omega) h1, levGo_cons, if_neg h0, if_pos h1]
      dsimp only
      rw [if_neg (by decide), if_neg (by omega), if_pos rfl]
      rfl
    · rw [h.par_hi x (by omega) hx.2, levGo_cons, if_neg h0, if_neg h1]
      rw [go_eq (p := p) hx.2 p.levels 1 p.pages p.counters (by omega) (by omega) hc.1 h.lv (by omega) ht (by omega) (by decide) (fun j hj => by
        unfold Pn.first
        rw [if_neg (by omega), show 1 + 1 + j - 2 = j by omega, sumI_sm])]
      have hin := levGo_in (p.counters :: p.levels) (0 + 1) (x - p.pages) (by decide) (fun y hy => by
        have := h.good.all y (List.mem_cons_of_mem _ hy)
        omega)
      show _ = out p (levGo (0 + 1) (x - p.pages) (p.counters :: p.levels))
      generalize levGo (0 + 1) (x - p.pages) (p.counters :: p.levels) = q at hin ⊢
      have hin2 : q.1 = -1 ∨ 1 ≤ q.1 := by
        rcases hin with h | h
        · exact .inl h
        · exact .inr h.1
      unfold out
      by_cases e1 : q.1 < 0
      · rw [if_pos e1, if_pos e1]
      · rw [if_neg e1, if_neg e1]
        split
        · rfl
        · rw [if_neg (by omega)]
end Go.Proofs.Ytidblaepklgkcaa
