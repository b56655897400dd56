/- Tasks that pin fewer keys than they have reserved: there is room for one more. -/
import Derived.Test.YtmlklmhochihbaaFrLaw
namespace Go.Proofs.Ytmlklmhochihbaa
open Go.RowKit Go.Maps

def sum5 (H : Nat → Int) : Int := H 0 + H 1 + H 2 + H 3 + H 4
def setN (H : Nat → Int) (t : Nat) (x : Int) : Nat → Int := fun j => if j = t then x else H j
theorem sum5_set (H : Nat → Int) {t : Nat} (ht : t < 5) (x : Int) : sum5 (setN H t x) = sum5 H - H t + x := by
  unfold sum5 setN
  rcases (by omega : t = 0 ∨ t = 1 ∨ t = 2 ∨ t = 3 ∨ t = 4) with rfl | rfl | rfl | rfl | rfl <;> simp <;> omega
theorem sum5_lt {H P : Nat → Int} (h : ∀ t, t < 5 → 0 ≤ P t ∧ 0 ≤ H t ∧ (P t = 0 ∨ P t < H t)) (h0 : 0 < sum5 H) : sum5 P < sum5 H := by
  have a0 := h 0 (by omega); have a1 := h 1 (by omega); have a2 := h 2 (by omega); have a3 := h 3 (by omega); have a4 := h 4 (by omega)
  unfold sum5 at *
  omega
/-- How many pins a task has. -/
def tcnt (l : List (Int × Int)) (t : Int) : Nat := (l.filter (fun p => p.1 == t)).length
theorem tcnt_rest (l : List (Int × Int)) (t : Int) : (l.filter (fun p => !(p.1 == t))).length + tcnt l t = l.length := by
  unfold tcnt
  induction l with
  | nil => rfl
  | cons p l ih =>
    rw [List.filter_cons, List.filter_cons]
    cases h : (p.1 == t) <;> simp <;> omega
theorem tcnt_free {l : List (Int × Int)} {t u : Int} : tcnt (l.filter (fun p => !(p.1 == t))) u = if u = t then 0 else tcnt l u := by
  unfold tcnt
  rw [List.filter_filter]
  by_cases h : u = t
  · rw [if_pos h, List.length_eq_zero_iff, List.filter_eq_nil_iff]
    intro p _ e
    simp only [Bool.and_eq_true, beq_iff_eq, Bool.not_eq_true'] at e
    rw [e.1, h] at e
    simp at e
  · rw [if_neg h]
    congr 1
    apply List.filter_congr
    intro p _
    by_cases hp : p.1 = u
    · simp [hp, h]
    · simp [hp]
theorem share_set {l : List (Int × Int)} {t u x : Int} (hn : ∀ p ∈ l, p.1 ≠ t) : share (l ++ [(t, x)]) u = if u = t then x else share l u := by
  unfold share
  rw [List.find?_append]
  by_cases h : u = t
  · rw [if_pos h, List.find?_eq_none.2 (fun p hp => by rw [h]; simpa using hn p hp)]
    simp [h]
  · rw [if_neg h]
    have e2 : (List.find? (fun p : Int × Int => p.1 == u) [(t, x)]) = none := by simp; exact fun e => h e.symm
    rw [e2, Option.or_none]
theorem share_free {l : List (Int × Int)} {t u : Int} : share (l.filter (fun p => !(p.1 == t))) u = if u = t then 0 else share l u := by
  unfold share
  rw [List.find?_filter]
  by_cases h : u = t
  · rw [if_pos h, List.find?_eq_none.2 (fun p _ => by subst h; simp)]
    rfl
  · rw [if_neg h]
    congr 2
    congr 1
    funext p
    by_cases hp : p.1 = u
    · simp [hp, h]
    · simp [hp]
/-- What holds of the table. -/
structure ShI (n i : Nat) (s : St) (H P : Nat → Int) : Prop where
  most : s.most = n
  shr : ∀ t : Nat, t < 5 → share s.sh (t : Int) = H t
  sum : sums s.sh = sum5 H
  cnt : ∀ t : Nat, t < 5 → (tcnt s.pins (t : Int) : Int) = P t
  len : (s.pins.length : Int) = sum5 P
  lt : ∀ t : Nat, t < 5 → 0 ≤ P t ∧ 0 ≤ H t ∧ (P t = 0 ∨ P t < H t)
  key : ∀ e ∈ s.fr, e.1 < 1000 + (i : Int)
  pl : s.pins.length ≤ i
theorem ShI.new {n : Nat} : ShI n 0 (St.new n) (fun _ => 0) (fun _ => 0) :=
  ⟨rfl, fun _ _ => rfl, rfl, fun _ _ => rfl, rfl, fun _ _ => ⟨by omega, by omega, .inl rfl⟩, fun e he => absurd he List.not_mem_nil, Nat.le_refl _⟩
section
variable {n i : Nat} {s : St} {H P : Nat → Int}
theorem ShI.next (h : ShI n i s H P) : ShI n (i + 1) s H P := ⟨h.most, h.shr, h.sum, h.cnt, h.len, h.lt, fun e he => by have := h.key e he; omega, by have := h.pl; omega⟩
theorem ShI.held (h : ShI n i s H P) (hok : Sok s) {t : Nat} (ht : t < 5) : s.held (t : Int) = decide (0 < H t) := by
  have := share_pos (fun p hp => (hok.sk p hp).2) (t : Int)
  rw [h.shr t ht] at this
  exact this.symm
theorem ShI.res (h : ShI n i s H P) (hok : Sok s) {t : Nat} (ht : t < 5) {x : Int} (hc : s.resc (t : Int) x = 0) : ShI n i (s.res (t : Int) x) (setN H t x) P ∧ 1 ≤ x := by
  have e1 : s.res (t : Int) x = { s with sh := s.sh ++ [((t : Int), x)] } := by unfold St.res; rw [if_pos hc]
  unfold St.resc at hc
  have hx : ¬ x < 1 := fun e => by rw [if_pos e] at hc; cases hc
  rw [if_neg hx] at hc
  have hh : ¬ (s.held (t : Int) = true) := fun e => by rw [if_pos e] at hc; cases hc
  have hH : H t = 0 := by
    have h1 := h.held hok ht
    have h2 := (h.lt t ht).2.1
    rw [h1] at hh
    have : ¬ (0 < H t) := fun e => hh (decide_eq_true e)
    omega
  have hno : ∀ p ∈ s.sh, p.1 ≠ (t : Int) := fun p hp e => hh (by unfold St.held; rw [List.any_eq_true]; exact ⟨p, hp, by simpa using e⟩)
  rw [e1]
  refine ⟨⟨h.most, fun u hu => ?_, ?_, h.cnt, h.len, fun u hu => ?_, h.key, h.pl⟩, by omega⟩
  · show share (s.sh ++ [((t : Int), x)]) (u : Int) = setN H t x u
    rw [share_set hno]
    unfold setN
    by_cases e : u = t
    · rw [if_pos (by omega), if_pos e]
    · rw [if_neg (by omega), if_neg e, h.shr u hu]
  · show sums (s.sh ++ [((t : Int), x)]) = _
    rw [sums_append, sums_cons, sums_nil, h.sum, sum5_set H ht, hH]
    omega
  · have := h.lt u hu
    unfold setN
    split
    · rename_i e
      subst e
      rw [hH] at this
      omega
    · exact this
theorem ShI.free (h : ShI n i s H P) (hok : Sok s) {t : Nat} (ht : t < 5) : ShI n i (s.free (t : Int)) (setN H t 0) (setN P t 0) := by
  refine ⟨h.most, fun u hu => ?_, ?_, fun u hu => ?_, ?_, fun u hu => ?_, h.key, Nat.le_trans (List.length_filter_le _ _) h.pl⟩
  · show share (s.sh.filter (fun p => !(p.1 == (t : Int)))) (u : Int) = _
    rw [share_free]
    unfold setN
    by_cases e : u = t
    · rw [if_pos (by omega), if_pos e]
    · rw [if_neg (by omega), if_neg e, h.shr u hu]
  · show sums (s.sh.filter (fun p => !(p.1 == (t : Int)))) = _
    rw [sums_filter hok.tn, h.sum, h.shr t ht, sum5_set H ht]
    omega
  · show (tcnt (s.pins.filter (fun p => !(p.1 == (t : Int)))) (u : Int) : Int) = _
    rw [tcnt_free]
    unfold setN
    by_cases e : u = t
    · rw [if_pos (by omega), if_pos e]; rfl
    · rw [if_neg (by omega), if_neg e, h.cnt u hu]
  · show ((s.pins.filter (fun p => !(p.1 == (t : Int)))).length : Int) = _
    have h1 := tcnt_rest s.pins (t : Int)
    have h2 := h.cnt t ht
    have h3 := h.len
    rw [sum5_set P ht]
    omega
  · have := h.lt u hu
    unfold setN
    split
    · exact ⟨by omega, by omega, .inl rfl⟩
    · exact this
/-- Where frames are reserved, and all are taken, one of them nobody needs. -/
theorem ShI.room (h : ShI n i s H P) (hok : Sok s) (h0 : 0 < sum5 H) (hf : ¬ (s.fr.length < s.most)) : s.loose ≠ [] := fun hl => by
  have h1 := sum5_lt h.lt h0
  have h2 := hok.sl
  rw [h.sum] at h2
  have h3 : s.keys.length ≤ (s.pins.map (·.2)).length := nodup_len hok.nd (fun k hk => by
    have hp : s.pinned k = true := by
      cases hp : s.pinned k with
      | true => rfl
      | false =>
        have : k ∈ s.loose := by unfold St.loose; exact List.mem_filter.2 ⟨hk, by rw [hp]; rfl⟩
        rw [hl] at this
        cases this
    unfold St.pinned at hp
    obtain ⟨p, hp1, hp2⟩ := List.any_eq_true.1 hp
    exact List.mem_map.2 ⟨p, hp1, by simpa using hp2⟩)
  have h4 : s.keys.length = s.fr.length := by unfold St.keys; rw [List.length_map]
  rw [List.length_map] at h3
  have h5 := h.len
  omega
theorem ShI.victim (h : ShI n i s H P) (hok : Sok s) (h0 : 0 < sum5 H) : (s.vicc = 5 ∧ s.fr.length < s.most) ∨ (s.vicc = 0 ∧ s.dropc s.vic = 0 ∧ i64 s.vic) := by
  by_cases hf : s.fr.length < s.most
  · left
    unfold St.vicc
    rw [if_pos hf]
    exact ⟨rfl, hf⟩
  · right
    have hl := h.room hok h0 hf
    unfold St.vicc St.vic
    rw [if_neg hf, if_neg hl, if_neg hf, if_neg hl]
    have hm := coldest_mem s.heat s.loose hl
    generalize coldest s.heat s.loose = k at hm
    unfold St.loose at hm
    obtain ⟨h1, h2⟩ := List.mem_filter.1 hm
    obtain ⟨e, he, rfl⟩ := List.mem_map.1 h1
    refine ⟨rfl, ?_, (hok.ik e he).1⟩
    unfold St.dropc
    rw [show s.has e.1 = true from St.has_iff.2 ⟨e, he, rfl⟩, show s.pinned e.1 = false by simpa using h2]
    rfl
theorem ShI.drop (h : ShI n i s H P) {k : Int} (hc : s.dropc k = 0) : ShI n i (s.drop k) H P ∧ (s.drop k).fr.length < s.fr.length := by
  have e1 : s.drop k = { s with fr := s.fr.filter (fun e => !(e.1 == k)), hl := s.hl.filter (fun e => !(e.1 == k)) } := by unfold St.drop; rw [if_pos hc]
  have hh : s.has k = true := by
    cases hh : s.has k with
    | true => rfl
    | false => unfold St.dropc at hc; rw [hh] at hc; cases hc
  rw [e1]
  refine ⟨⟨h.most, h.shr, h.sum, h.cnt, h.len, h.lt, fun e he => h.key e (List.mem_filter.1 he).1, h.pl⟩, ?_⟩
  obtain ⟨e, he, hek⟩ := St.has_iff.1 hh
  exact List.length_filter_lt_length_iff_exists.2 ⟨e, he, by simp [hek]⟩
/-- A key more, and its pin. -/
theorem ShI.put (h : ShI n i s H P) {b : List Nat} (hr : s.fr.length < s.most) : s.putc (1000 + (i : Int)) = 0 ∧ (s.put (1000 + (i : Int)) b false).has (1000 + (i : Int)) = true ∧ (s.put (1000 + (i : Int)) b false) = { s with fr := s.fr ++ [(1000 + (i : Int), b, false)] } := by
  have hh : s.has (1000 + (i : Int)) = false := St.has_not.2 (fun e he => by have := h.key e he; omega)
  have e1 : s.put (1000 + (i : Int)) b false = { s with fr := s.fr ++ [(1000 + (i : Int), b, false)] } := by unfold St.put; rw [if_neg (by rw [hh]; decide), if_neg (by omega)]
  refine ⟨by unfold St.putc; rw [hh, if_neg (by decide), if_neg (by omega)], ?_, e1⟩
  rw [e1]
  exact St.has_iff.2 ⟨_, List.mem_append_right _ List.mem_cons_self, rfl⟩
theorem ShI.pin (h : ShI n i s H P) {b : List Nat} (hr : s.fr.length < s.most) {t : Nat} (ht : t < 5) (hp : P t + 1 < H t) : ShI n (i + 1) ((s.put (1000 + (i : Int)) b false).pin (t : Int) (1000 + (i : Int))) H (setN P t (P t + 1)) := by
  obtain ⟨-, h2, h3⟩ := h.put (b := b) hr
  have e1 : (s.put (1000 + (i : Int)) b false).pin (t : Int) (1000 + (i : Int)) = { s with fr := s.fr ++ [(1000 + (i : Int), b, false)], pins := s.pins ++ [((t : Int), 1000 + (i : Int))] } := by
    unfold St.pin
    rw [if_pos h2, h3]
  rw [e1]
  refine ⟨h.most, h.shr, h.sum, fun u hu => ?_, ?_, fun u hu => ?_, fun e he => ?_, ?_⟩
  · show (tcnt (s.pins ++ [((t : Int), 1000 + (i : Int))]) (u : Int) : Int) = _
    unfold tcnt
    rw [List.filter_append, List.length_append]
    have := h.cnt u hu
    unfold tcnt at this
    unfold setN
    by_cases e : u = t
    · subst e
      rw [if_pos rfl]
      simp
      omega
    · rw [if_neg e]
      have : ((t : Int) == (u : Int)) = false := by
        have : (t : Int) ≠ (u : Int) := by omega
        simpa using this
      simp [this]
      omega
  · show ((s.pins ++ [((t : Int), 1000 + (i : Int))]).length : Int) = _
    rw [List.length_append, List.length_singleton, sum5_set P ht]
    have := h.len
    omega
  · have := h.lt u hu
    unfold setN
    split
    · rename_i e
      subst e
      exact ⟨by omega, this.2.1, .inr hp⟩
    · exact this
  · rcases List.mem_append.1 he with he | he
    · have := h.key e he; omega
    · rw [show e = (1000 + (i : Int), b, false) by simpa using he]
      show 1000 + (i : Int) < _
      omega
  · show (s.pins ++ [((t : Int), 1000 + (i : Int))]).length ≤ _
    rw [List.length_append, List.length_singleton]
    have := h.pl
    omega
end
end Go.Proofs.Ytmlklmhochihbaa
