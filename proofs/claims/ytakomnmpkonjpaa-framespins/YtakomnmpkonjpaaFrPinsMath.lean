/- Tasks that pin one key, and are freed one by one. -/
import Derived.Test.YtakomnmpkonjpaaFrLaw
namespace Go.Proofs.Ytakomnmpkonjpaa
open Go.RowKit Go.Maps

def frs (n : Nat) : List FrE := (List.range n).map (fun k : Nat => ((k : Int), ([] : List Nat), false))
theorem frs_next (n : Nat) : frs (n + 1) = frs n ++ [((n : Int), [], false)] := by unfold frs; rw [List.range_succ, List.map_append]; rfl
theorem frs_len (n : Nat) : (frs n).length = n := by unfold frs; simp
theorem frs_has {n : Nat} {k : Nat} : hasK (frs n) (k : Int) = decide (k < n) := by
  rw [Bool.eq_iff_iff, hasK_keys, decide_eq_true_eq]
  unfold frs
  rw [List.map_map, List.mem_map]
  constructor
  · rintro ⟨j, hj, e⟩
    have : (j : Int) = (k : Int) := e
    have := List.mem_range.1 hj
    omega
  · intro h
    exact ⟨k, List.mem_range.2 h, rfl⟩
def pinsAt (T : List Int) (i : Nat) : List (Int × Int) := (T.filter (fun t => !(T.take i).contains t)).map (fun t => (t, (0 : Int)))
theorem pinsAt_zero (T : List Int) : pinsAt T 0 = T.map (fun t => (t, (0 : Int))) := by
  unfold pinsAt
  rw [List.filter_eq_self.2 (fun t _ => by simp)]
theorem pinsAt_next {T : List Int} {i : Nat} (hi : i < T.length) : (pinsAt T i).filter (fun p => !(p.1 == T.getD i 0)) = pinsAt T (i + 1) := by
  unfold pinsAt
  rw [List.filter_map, List.filter_filter]
  congr 1
  apply List.filter_congr
  intro t _
  rw [List.take_succ_eq_append_getElem hi, List.getD_eq_getElem?_getD, List.getElem?_eq_getElem hi]
  simp only [Function.comp, Option.getD_some, List.contains_append, List.contains_cons, List.contains_nil, Bool.or_false, Bool.not_or]
  rw [Bool.and_comm]
theorem pinsAt_any (T : List Int) (i : Nat) : (pinsAt T i).any (fun p => p.2 == 0) = T.any (fun t => !(T.take i).contains t) := by
  unfold pinsAt
  rw [List.any_map]
  rw [Bool.eq_iff_iff, List.any_eq_true, List.any_eq_true]
  constructor
  · rintro ⟨t, ht, -⟩
    obtain ⟨h1, h2⟩ := List.mem_filter.1 ht
    exact ⟨t, h1, h2⟩
  · rintro ⟨t, h1, h2⟩
    exact ⟨t, List.mem_filter.2 ⟨h1, h2⟩, rfl⟩
def lastAt (T : List Int) (i j : Nat) : Bool := ((T.take j).drop (i + 1)).all (fun t => (T.take (i + 1)).contains t)
theorem lastAt_zero (T : List Int) (i : Nat) : lastAt T i (i + 1) = true := by
  unfold lastAt
  rw [List.drop_eq_nil_of_le (by rw [List.length_take]; omega)]
  rfl
theorem lastAt_next {T : List Int} {i j : Nat} (hj : j < T.length) (hij : i + 1 ≤ j) : lastAt T i (j + 1) = (lastAt T i j && (T.take (i + 1)).contains (T.getD j 0)) := by
  unfold lastAt
  rw [List.take_succ_eq_append_getElem hj, List.drop_append_of_le_length (by rw [List.length_take]; omega), List.all_append, List.getD_eq_getElem?_getD, List.getElem?_eq_getElem hj]
  simp
theorem lastAt_all (T : List Int) (i : Nat) : T.any (fun t => !(T.take (i + 1)).contains t) = !lastAt T i T.length := by
  unfold lastAt
  rw [List.take_length]
  conv => lhs; rw [← List.take_append_drop (i + 1) T]
  rw [List.any_append]
  have h1 : (T.take (i + 1)).any (fun t => !(List.take (i + 1) (T.take (i + 1) ++ T.drop (i + 1))).contains t) = false := by
    rw [List.any_eq_false]
    intro t ht
    rw [List.take_append_drop]
    simp
    exact ht
  rw [h1, Bool.false_or, List.take_append_drop, List.not_all_eq_any_not]
theorem gone_next {T : List Int} {k : Nat} (hk : k < T.length) (x : Int) : (T.take (k + 1)).contains x = ((T.take k).contains x || (T.getD k 0 == x)) := by
  rw [List.take_succ_eq_append_getElem hk, List.getD_eq_getElem?_getD, List.getElem?_eq_getElem hk, List.contains_append]
  simp only [Option.getD_some, List.contains_cons, List.contains_nil, Bool.or_false]
  congr 1
  rw [Bool.eq_iff_iff, beq_iff_eq, beq_iff_eq]
  exact eq_comm
def goneAt (T : List Int) (k : Nat) (x : Int) : Bool := (T.take k).contains x
theorem goneAt_zero (T : List Int) (x : Int) : goneAt T 0 x = false := rfl
/-- What holds of the table. -/
structure PinS (n : Nat) (s : St) (fr : List FrE) (pins : List (Int × Int)) (m : Nat) : Prop where
  most : s.most = n
  fr : s.fr = fr
  pins : s.pins = pins
  now : s.now ≤ m
theorem PinS.has {n m : Nat} {s : St} {pins : List (Int × Int)} (h : PinS n s (frs n) pins m) (h1 : 1 ≤ n) : s.has 0 = true := by
  unfold St.has
  rw [h.fr]
  have := frs_has (n := n) (k := 0)
  rw [show ((0 : Nat) : Int) = 0 by rfl] at this
  rw [this]
  exact decide_eq_true (by omega)
theorem PinS.drop {n m : Nat} {s : St} {pins : List (Int × Int)} (h : PinS n s (frs n) pins m) (h1 : 1 ≤ n) : s.dropc 0 = if pins.any (fun p => p.2 == 0) then 6 else 0 := by
  unfold St.dropc St.pinned
  rw [h.has h1, h.pins]
  rfl
theorem PinS.loose {n m : Nat} {s : St} {pins : List (Int × Int)} (h : PinS n s (frs n) pins m) (hp : pins.any (fun p => p.2 == 0) = true) : (s.vicc = 0 → s.vic ≠ 0) ∧ (n = 1 → s.vicc = 12) := by
  have hp2 : s.pinned 0 = true := by unfold St.pinned; rw [h.pins]; exact hp
  have h0 : (0 : Int) ∉ s.loose := fun e => by
    unfold St.loose at e
    have := (List.mem_filter.1 e).2
    rw [hp2] at this
    cases this
  have hlen : ¬ (s.fr.length < s.most) := by rw [h.fr, h.most, frs_len]; omega
  unfold St.vicc St.vic
  rw [if_neg hlen, if_neg hlen]
  constructor
  · by_cases hl : s.loose = []
    · rw [if_pos hl]; intro e; cases e
    · rw [if_neg hl, if_neg hl]
      intro _ e
      exact h0 (by rw [← e]; exact coldest_mem _ _ hl)
  · intro h1
    have hl : s.loose = [] := by
      unfold St.loose St.keys
      rw [h.fr, h1, show frs 1 = [((0 : Int), [], false)] by rfl]
      simp [hp2]
    rw [if_pos hl]
end Go.Proofs.Ytakomnmpkonjpaa
