/- Frames as a thing of lists: what each call leaves, and what it tells. -/
import Derived.Test.YtmlklmhochihbaaHtLook
namespace Go.Proofs.Ytmlklmhochihbaa
open Go.RowKit

/-- A frame: a key, its bytes, its mark. -/
abbrev FrE := Int × List Nat × Bool
structure St where
  most : Nat
  fr : List FrE
  pins : List (Int × Int)
  sh : List (Int × Int)
  now : Nat
  hl : List Sp
def sums (l : List (Int × Int)) : Int := (l.map (·.2)).sum
def hasK (l : List FrE) (k : Int) : Bool := l.any (fun e => e.1 == k)
namespace St
def new (n : Nat) : St := ⟨n, [], [], [], 0, []⟩
def left (s : St) : Int := (s.most : Int) - sums s.sh
def has (s : St) (k : Int) : Bool := hasK s.fr k
def held (s : St) (t : Int) : Bool := s.sh.any (fun p => p.1 == t)
def resc (s : St) (t n : Int) : Int := if n < 1 then 1 else if s.held t then 6 else if s.left < n then 12 else 0
def res (s : St) (t n : Int) : St := if s.resc t n = 0 then { s with sh := s.sh ++ [(t, n)] } else s
def free (s : St) (t : Int) : St := { s with sh := s.sh.filter (fun p => !(p.1 == t)), pins := s.pins.filter (fun p => !(p.1 == t)) }
def putc (s : St) (k : Int) : Int := if s.has k then 0 else if s.most ≤ s.fr.length then 11 else 0
def laid (l : List FrE) (k : Int) (b : List Nat) (wr : Bool) : List FrE := l.map (fun e => if e.1 == k then (e.1, b, e.2.2 || wr) else e)
def put (s : St) (k : Int) (b : List Nat) (wr : Bool) : St := if s.has k then { s with fr := laid s.fr k b wr } else if s.most ≤ s.fr.length then s else { s with fr := s.fr ++ [(k, b, wr)] }
def bytes (s : St) (k : Int) : List Nat := ((s.fr.find? (fun e => e.1 == k)).map (·.2.1)).getD []
def mark (s : St) (k : Int) : Bool := ((s.fr.find? (fun e => e.1 == k)).map (·.2.2)).getD false
def touch (s : St) (k : Int) (y : Nat) : St := { s with now := s.now + 1, hl := touched 16 s.now s.hl k y }
def warm (s : St) (k : Int) (y : Nat) : St := if s.has k then s.touch k y else s
def clean (s : St) (k : Int) : St := { s with fr := s.fr.map (fun e => if e.1 == k then (e.1, e.2.1, false) else e) }
def pinned (s : St) (k : Int) : Bool := s.pins.any (fun p => p.2 == k)
def dropc (s : St) (k : Int) : Int := if !s.has k then 5 else if s.pinned k then 6 else 0
def drop (s : St) (k : Int) : St := if s.dropc k = 0 then { s with fr := s.fr.filter (fun e => !(e.1 == k)), hl := s.hl.filter (fun e => !(e.1 == k)) } else s
def pin (s : St) (t k : Int) : St := if s.has k then { s with pins := s.pins ++ [(t, k)] } else s
def keys (s : St) : List Int := s.fr.map (·.1)
def loose (s : St) : List Int := (s.keys).filter (fun k => !s.pinned k)
def heat (s : St) (k : Int) : Nat := hof 16 s.now (look s.hl) k
def vicc (s : St) : Int := if s.fr.length < s.most then 5 else if s.loose = [] then 12 else 0
def vic (s : St) : Int := if s.fr.length < s.most then 0 else if s.loose = [] then 0 else coldest s.heat s.loose
end St
theorem hasK_iff {l : List FrE} {k : Int} : hasK l k = true ↔ ∃ e ∈ l, e.1 = k := by unfold hasK; simp
theorem hasK_keys {l : List FrE} {k : Int} : hasK l k = true ↔ k ∈ l.map (·.1) := by unfold hasK; simp
theorem hasK_not {l : List FrE} {k : Int} : hasK l k = false ↔ ∀ e ∈ l, e.1 ≠ k := by unfold hasK; simp
theorem St.has_iff {s : St} {k : Int} : s.has k = true ↔ ∃ e ∈ s.fr, e.1 = k := hasK_iff
theorem St.has_not {s : St} {k : Int} : s.has k = false ↔ ∀ e ∈ s.fr, e.1 ≠ k := hasK_not
theorem St.laid_keys (l : List FrE) (k : Int) (b : List Nat) (wr : Bool) : (St.laid l k b wr).map (·.1) = l.map (·.1) := by
  unfold St.laid
  rw [List.map_map]
  apply List.map_congr_left
  intro e _
  simp only [Function.comp]
  split <;> rfl
theorem clean_keys (l : List FrE) (k : Int) : (l.map (fun e : FrE => if e.1 == k then (e.1, e.2.1, false) else e)).map (·.1) = l.map (·.1) := by
  rw [List.map_map]
  apply List.map_congr_left
  intro e _
  simp only [Function.comp]
  split <;> rfl
/-- One frame a key. -/
theorem one_key {l : List FrE} (h : (l.map (·.1)).Nodup) {e f : FrE} (he : e ∈ l) (hf : f ∈ l) (hk : e.1 = f.1) : e = f := by
  induction l with
  | nil => cases he
  | cons x l ih =>
    rw [List.map_cons, List.nodup_cons] at h
    rcases List.mem_cons.1 he with h1 | h1
    · rcases List.mem_cons.1 hf with h2 | h2
      · rw [h1, h2]
      · exact absurd (List.mem_map.2 ⟨f, h2, by rw [← hk, h1]⟩) h.1
    · rcases List.mem_cons.1 hf with h2 | h2
      · exact absurd (List.mem_map.2 ⟨e, h1, by rw [hk, h2]⟩) h.1
      · exact ih h.2 h1 h2
theorem find_key {l : List FrE} (h : (l.map (·.1)).Nodup) {e : FrE} (he : e ∈ l) : l.find? (fun x => x.1 == e.1) = some e := by
  cases hf : l.find? (fun x => x.1 == e.1) with
  | none => exact absurd (List.find?_eq_none.1 hf e he) (by simp)
  | some f =>
    have h1 := List.mem_of_find?_eq_some hf
    have h2 := List.find?_some hf
    rw [one_key h h1 he (by simpa using h2)]
theorem one_fst {l : List (Int × Int)} (h : (l.map (·.1)).Nodup) {e f : Int × Int} (he : e ∈ l) (hf : f ∈ l) (hk : e.1 = f.1) : e = f := by
  induction l with
  | nil => cases he
  | cons x l ih =>
    rw [List.map_cons, List.nodup_cons] at h
    rcases List.mem_cons.1 he with h1 | h1
    · rcases List.mem_cons.1 hf with h2 | h2
      · rw [h1, h2]
      · exact absurd (List.mem_map.2 ⟨f, h2, by rw [← hk, h1]⟩) h.1
    · rcases List.mem_cons.1 hf with h2 | h2
      · exact absurd (List.mem_map.2 ⟨e, h1, by rw [hk, h2]⟩) h.1
      · exact ih h.2 h1 h2
/-- What holds of frames always. -/
structure Sok (s : St) : Prop where
  m1 : 1 ≤ s.most
  m2 : s.most ≤ 1024
  nd : (s.fr.map (·.1)).Nodup
  le : s.fr.length ≤ s.most
  ik : ∀ e ∈ s.fr, i64 e.1 ∧ e.2.1.length ≤ 1000000
  pk : ∀ p ∈ s.pins, i64 p.1 ∧ i64 p.2 ∧ s.has p.2 = true
  tn : (s.sh.map (·.1)).Nodup
  sk : ∀ p ∈ s.sh, i64 p.1 ∧ 1 ≤ p.2
  sl : sums s.sh ≤ s.most
theorem sums_nil : sums [] = 0 := rfl
theorem sums_cons (p : Int × Int) (l : List (Int × Int)) : sums (p :: l) = p.2 + sums l := by unfold sums; simp
theorem sums_append (l m : List (Int × Int)) : sums (l ++ m) = sums l + sums m := by
  induction l with
  | nil => simp [sums_nil]
  | cons p l ih => rw [List.cons_append, sums_cons, sums_cons, ih]; omega
theorem sums_nonneg {l : List (Int × Int)} (h : ∀ p ∈ l, 1 ≤ p.2) : 0 ≤ sums l := by
  induction l with
  | nil => rw [sums_nil]; omega
  | cons p l ih =>
    rw [sums_cons]
    have := h p List.mem_cons_self
    have := ih (fun q hq => h q (List.mem_cons_of_mem _ hq))
    omega
theorem filter_other {l : List (Int × Int)} {t : Int} (h : t ∉ l.map (·.1)) : l.filter (fun p => !(p.1 == t)) = l := by
  rw [List.filter_eq_self]
  intro p hp
  have : p.1 ≠ t := fun e => h (List.mem_map.2 ⟨p, hp, e⟩)
  simpa using this
/-- What a task has reserved. -/
def share (l : List (Int × Int)) (t : Int) : Int := ((l.find? (fun p => p.1 == t)).map (·.2)).getD 0
theorem share_of {l : List (Int × Int)} (h : (l.map (·.1)).Nodup) {t n : Int} (hp : (t, n) ∈ l) : share l t = n := by
  unfold share
  cases hf : l.find? (fun p => p.1 == t) with
  | none => exact absurd (List.find?_eq_none.1 hf _ hp) (by simp)
  | some q =>
    have h1 := List.mem_of_find?_eq_some hf
    have h2 := List.find?_some hf
    rw [one_fst h h1 hp (by simpa using h2)]
    rfl
theorem share_none {l : List (Int × Int)} {t : Int} (h : ∀ p ∈ l, p.1 ≠ t) : share l t = 0 := by
  unfold share
  rw [List.find?_eq_none.2 (fun p hp => by simpa using h p hp)]
  rfl
theorem sums_filter {l : List (Int × Int)} (h : (l.map (·.1)).Nodup) (t : Int) : sums (l.filter (fun p => !(p.1 == t))) = sums l - share l t := by
  induction l with
  | nil => unfold share; simp [sums_nil]
  | cons p l ih =>
    rw [List.map_cons, List.nodup_cons] at h
    rw [List.filter_cons, sums_cons]
    by_cases hp : p.1 = t
    · have h1 : share (p :: l) t = p.2 := by
        have e : (p.1 == t) = true := by simpa using hp
        simp [share, e]
      rw [if_neg (by simpa using hp), filter_other (by rw [← hp]; exact h.1), h1]; omega
    · have h1 : share (p :: l) t = share l t := by
        have e : (p.1 == t) = false := by simpa using hp
        simp [share, e]
      rw [if_pos (by simpa using hp), sums_cons, ih h.2, h1]; omega
theorem share_nonneg {l : List (Int × Int)} (h : ∀ p ∈ l, 1 ≤ p.2) (t : Int) : 0 ≤ share l t := by
  unfold share
  cases hf : l.find? (fun p => p.1 == t) with
  | none => simp
  | some q =>
    have := h q (List.mem_of_find?_eq_some hf)
    simp; omega
theorem share_le {l : List (Int × Int)} (h : ∀ p ∈ l, 1 ≤ p.2) (hn : (l.map (·.1)).Nodup) (t : Int) : share l t ≤ sums l := by
  have h1 := sums_filter hn t
  have h2 : 0 ≤ sums (l.filter (fun p => !(p.1 == t))) := sums_nonneg (fun p hp => h p (List.mem_filter.1 hp).1)
  omega
theorem share_pos {l : List (Int × Int)} (h : ∀ p ∈ l, 1 ≤ p.2) (t : Int) : decide (0 < share l t) = l.any (fun p => p.1 == t) := by
  unfold share
  cases hf : l.find? (fun p => p.1 == t) with
  | none =>
    have h1 := List.find?_eq_none.1 hf
    rw [show l.any (fun p => p.1 == t) = false by rw [List.any_eq_false]; exact h1]
    simp
  | some q =>
    have h1 := h q (List.mem_of_find?_eq_some hf)
    have h2 := List.find?_some hf
    rw [show l.any (fun p => p.1 == t) = true by rw [List.any_eq_true]; exact ⟨q, List.mem_of_find?_eq_some hf, h2⟩]
    simp; omega
namespace Sok
theorem new {n : Nat} (h1 : 1 ≤ n) (h2 : n ≤ 1024) : Sok (St.new n) :=
  ⟨h1, h2, .nil, Nat.zero_le _, fun e he => absurd he List.not_mem_nil, fun e he => absurd he List.not_mem_nil, .nil, fun e he => absurd he List.not_mem_nil, by show sums [] ≤ _; rw [sums_nil]; show (0 : Int) ≤ (n : Int); omega⟩
theorem sh0 {s : St} (h : Sok s) : 0 ≤ sums s.sh := sums_nonneg (fun p hp => (h.sk p hp).2)
theorem left0 {s : St} (h : Sok s) : 0 ≤ s.left ∧ s.left ≤ s.most := by
  have := h.sl; have := h.sh0; unfold St.left; omega
theorem res {s : St} (h : Sok s) {t n : Int} (ht : i64 t) : Sok (s.res t n) := by
  unfold St.res
  split
  · rename_i h0
    unfold St.resc at h0
    by_cases h1 : n < 1
    · rw [if_pos h1] at h0; cases h0
    rw [if_neg h1] at h0
    by_cases h2 : s.held t = true
    · rw [if_pos h2] at h0; cases h0
    rw [if_neg h2] at h0
    by_cases h3 : s.left < n
    · rw [if_pos h3] at h0; cases h0
    refine ⟨h.m1, h.m2, h.nd, h.le, h.ik, h.pk, ?_, fun p hp => ?_, ?_⟩
    · show ((s.sh ++ [(t, n)]).map (·.1)).Nodup
      rw [List.map_append, List.nodup_append]
      refine ⟨h.tn, by simp, fun a ha b hb e => h2 ?_⟩
      have hb' : b = t := by simpa using hb
      obtain ⟨p, hp, e2⟩ := List.mem_map.1 ha
      unfold St.held
      rw [List.any_eq_true]
      exact ⟨p, hp, by rw [e2, e, hb']; simp⟩
    · rcases List.mem_append.1 hp with hp | hp
      · exact h.sk p hp
      · rw [show p = (t, n) by simpa using hp]
        exact ⟨ht, by omega⟩
    · show sums (s.sh ++ [(t, n)]) ≤ _
      rw [sums_append, sums_cons, sums_nil]
      unfold St.left at h3
      show _ ≤ (s.most : Int)
      omega
  · exact h
theorem free {s : St} (h : Sok s) (t : Int) : Sok (s.free t) := by
  refine ⟨h.m1, h.m2, h.nd, h.le, h.ik, fun p hp => h.pk p (List.mem_filter.1 hp).1, h.tn.sublist (List.filter_sublist.map _), fun p hp => h.sk p (List.mem_filter.1 hp).1, ?_⟩
  show sums (s.sh.filter (fun p => !(p.1 == t))) ≤ _
  rw [sums_filter h.tn]
  have := share_nonneg (fun p hp => (h.sk p hp).2) t
  have := h.sl
  show _ ≤ (s.most : Int)
  omega
theorem put {s : St} (h : Sok s) {k : Int} {b : List Nat} {wr : Bool} (hk : i64 k) (hb : b.length ≤ 1000000) : Sok (s.put k b wr) := by
  unfold St.put
  split
  · have e := St.laid_keys s.fr k b wr
    refine ⟨h.m1, h.m2, by show ((St.laid s.fr k b wr).map (·.1)).Nodup; rw [e]; exact h.nd, by show (St.laid s.fr k b wr).length ≤ _; unfold St.laid; rw [List.length_map]; exact h.le, fun x hx => ?_, fun p hp => ?_, h.tn, h.sk, h.sl⟩
    · obtain ⟨y, hy, rfl⟩ := List.mem_map.1 hx
      have := h.ik y hy
      split
      · exact ⟨this.1, hb⟩
      · exact this
    · have := h.pk p hp
      refine ⟨this.1, this.2.1, ?_⟩
      have h3 := this.2.2
      unfold St.has at h3 ⊢
      rw [hasK_keys] at h3 ⊢
      rw [e]; exact h3
  · rename_i hn
    split
    · exact h
    · rename_i hl
      refine ⟨h.m1, h.m2, ?_, ?_, fun x hx => ?_, fun p hp => ?_, h.tn, h.sk, h.sl⟩
      · show ((s.fr ++ [(k, b, wr)]).map (·.1)).Nodup
        rw [List.map_append, List.nodup_append]
        refine ⟨h.nd, by simp, fun a ha c hc e => hn ?_⟩
        have hc' : c = k := by simpa using hc
        unfold St.has
        rw [hasK_keys, ← hc', ← e]
        exact ha
      · show (s.fr ++ [(k, b, wr)]).length ≤ _
        rw [List.length_append, List.length_singleton]
        show _ ≤ s.most
        omega
      · rcases List.mem_append.1 hx with hx | hx
        · exact h.ik x hx
        · rw [show x = (k, b, wr) by simpa using hx]
          exact ⟨hk, hb⟩
      · have := h.pk p hp
        refine ⟨this.1, this.2.1, ?_⟩
        have h3 := this.2.2
        unfold St.has at h3 ⊢
        rw [hasK_keys] at h3 ⊢
        rw [List.map_append]
        exact List.mem_append_left _ h3
theorem touch {s : St} (h : Sok s) (k : Int) (y : Nat) : Sok (s.touch k y) := ⟨h.m1, h.m2, h.nd, h.le, h.ik, h.pk, h.tn, h.sk, h.sl⟩
theorem warm {s : St} (h : Sok s) (k : Int) (y : Nat) : Sok (s.warm k y) := by
  unfold St.warm
  split
  · exact h.touch k y
  · exact h
theorem clean {s : St} (h : Sok s) (k : Int) : Sok (s.clean k) := by
  have e := clean_keys s.fr k
  refine ⟨h.m1, h.m2, ?_, ?_, fun x hx => ?_, fun p hp => ?_, h.tn, h.sk, h.sl⟩
  · unfold St.clean; rw [e]; exact h.nd
  · unfold St.clean; rw [List.length_map]; exact h.le
  · unfold St.clean at hx
    obtain ⟨y, hy, rfl⟩ := List.mem_map.1 hx
    have := h.ik y hy
    split
    · exact this
    · exact this
  · have := h.pk p hp
    refine ⟨this.1, this.2.1, ?_⟩
    have h3 := this.2.2
    unfold St.has at h3 ⊢
    rw [hasK_keys] at h3 ⊢
    unfold St.clean
    rw [e]; exact h3
theorem drop {s : St} (h : Sok s) (k : Int) : Sok (s.drop k) := by
  unfold St.drop
  split
  · rename_i h0
    refine ⟨h.m1, h.m2, h.nd.sublist (List.filter_sublist.map _), Nat.le_trans (List.length_filter_le _ _) h.le, fun x hx => h.ik x (List.mem_filter.1 hx).1, fun p hp => ?_, h.tn, h.sk, h.sl⟩
    have := h.pk p hp
    refine ⟨this.1, this.2.1, ?_⟩
    have hne : p.2 ≠ k := fun e => by
      unfold St.dropc at h0
      have hpn : s.pinned k = true := by unfold St.pinned; rw [List.any_eq_true]; exact ⟨p, hp, by simpa using e⟩
      rw [hpn] at h0
      split at h0 <;> simp at h0
    obtain ⟨x, hx, e⟩ := St.has_iff.1 this.2.2
    exact St.has_iff.2 ⟨x, List.mem_filter.2 ⟨hx, by rw [e]; simpa using hne⟩, e⟩
  · exact h
theorem pin {s : St} (h : Sok s) {t k : Int} (ht : i64 t) (hk : i64 k) : Sok (s.pin t k) := by
  unfold St.pin
  split
  · rename_i hh
    refine ⟨h.m1, h.m2, h.nd, h.le, h.ik, fun p hp => ?_, h.tn, h.sk, h.sl⟩
    rcases List.mem_append.1 hp with hp | hp
    · exact h.pk p hp
    · rw [show p = (t, k) by simpa using hp]
      exact ⟨ht, hk, hh⟩
  · exact h
end Sok
/-- How many of a list of pins are of a key. -/
def cnt (l : List (Int × Int)) (k : Int) : Nat := (l.filter (fun p => p.2 == k)).length
theorem cnt_perm {l m : List (Int × Int)} (h : l.Perm m) (k : Int) : cnt l k = cnt m k := (h.filter _).length_eq
theorem cnt_cons (p : Int × Int) (l : List (Int × Int)) (k : Int) : cnt (p :: l) k = cnt l k + (if p.2 = k then 1 else 0) := by
  unfold cnt
  rw [List.filter_cons]
  by_cases h : p.2 = k
  · simp [h]
  · simp [h]
theorem cnt_pos {l m : List (Int × Int)} (h : ∀ x, x ∈ l ↔ x ∈ m) (k : Int) : decide (0 < cnt l k) = m.any (fun p => p.2 == k) := by
  rw [Bool.eq_iff_iff, decide_eq_true_eq, List.any_eq_true]
  unfold cnt
  rw [List.length_pos_iff_exists_mem]
  constructor
  · rintro ⟨x, hx⟩
    obtain ⟨h1, h2⟩ := List.mem_filter.1 hx
    exact ⟨x, (h x).1 h1, h2⟩
  · rintro ⟨x, h1, h2⟩
    exact ⟨x, List.mem_filter.2 ⟨(h x).2 h1, h2⟩⟩
theorem cnt_le (l : List (Int × Int)) (k : Int) : cnt l k ≤ l.length := List.length_filter_le _ _
/-- The coldest one does not hang on the order. -/
theorem colder_total (H : Int → Nat) {a b : Int} (h : a ≠ b) : colder H a b = true ∨ colder H b a = true := by
  unfold colder ls sa
  simp
  omega
theorem colder_not (H : Int → Nat) {a b : Int} (h1 : colder H a b = true) (h2 : colder H b a = true) : False := by
  unfold colder ls sa at h1 h2
  simp at h1 h2
  omega
theorem colder_trans (H : Int → Nat) {a b c : Int} (h1 : colder H a b = true) (h2 : colder H b c = true) : colder H a c = true := by
  unfold colder ls sa at *
  simp at *
  omega
theorem coldest_min (H : Int → Nat) : ∀ ks : List Int, ∀ x ∈ ks, colder H x (coldest H ks) = false := by
  intro ks
  have irr : ∀ a, colder H a a = false := fun a => by
    cases h : colder H a a with
    | false => rfl
    | true => exact (colder_not H h h).elim
  cases ks with
  | nil => intro x hx; cases hx
  | cons k ks =>
    induction ks generalizing k with
    | nil => intro x hx; rw [show x = k by simpa using hx]; exact irr k
    | cons y r ih =>
      intro x hx
      rw [coldest_cons]
      have key : ∀ m z, colder H z m = true ∨ z = m → (∀ q ∈ z :: r, colder H q (coldest H (z :: r)) = false) → colder H m (coldest H (z :: r)) = false := by
        intro m z hz hq
        cases hc : colder H m (coldest H (z :: r)) with
        | false => rfl
        | true =>
          rcases hz with hz | hz
          · have := hq z List.mem_cons_self
            rw [colder_trans H hz hc] at this; cases this
          · rw [← hz] at hc
            have := hq z List.mem_cons_self
            rw [hc] at this; cases this
      by_cases hc : colder H y k = true
      · rw [if_pos hc]
        rcases List.mem_cons.1 hx with rfl | hx
        · exact key x y (.inl hc) (ih y)
        · exact ih y x hx
      · rw [if_neg hc]
        rcases List.mem_cons.1 hx with rfl | hx
        · exact ih _ _ List.mem_cons_self
        · rcases List.mem_cons.1 hx with rfl | hx
          · by_cases he : k = x
            · exact key x k (.inr he) (ih k)
            · rcases colder_total H he with h5 | h5
              · exact key x k (.inl h5) (ih k)
              · exact absurd h5 hc
          · exact ih k x (List.mem_cons_of_mem _ hx)
theorem coldest_perm (H : Int → Nat) {l m : List Int} (h : l.Perm m) : coldest H l = coldest H m := by
  by_cases hl : l = []
  · subst hl
    rw [List.Perm.nil_eq h]
  · have hm : m ≠ [] := fun e => hl (by subst e; exact List.Perm.eq_nil h)
    have h1 := coldest_mem H l hl
    have h2 := coldest_mem H m hm
    have h3 := coldest_min H l _ (h.mem_iff.2 h2)
    have h4 := coldest_min H m _ (h.mem_iff.1 h1)
    by_cases he : coldest H l = coldest H m
    · exact he
    · rcases colder_total H he with h5 | h5
      · rw [h5] at h4; cases h4
      · rw [h5] at h3; cases h3
/-- Lists that rise and have the same members are one. -/
theorem perm_le_eq : ∀ {l1 l2 : List Int}, l1.Perm l2 → l1.Pairwise (· ≤ ·) → l2.Pairwise (· ≤ ·) → l1 = l2
  | [], l2, h, _, _ => (List.Perm.nil_eq h)
  | a :: l1, [], h, _, _ => absurd h.length_eq (by simp)
  | a :: l1, b :: l2, h, h1, h2 => by
    have g1 := List.pairwise_cons.1 h1
    have g2 := List.pairwise_cons.1 h2
    have hab : a = b := by
      rcases List.mem_cons.1 (h.mem_iff.1 List.mem_cons_self) with e | e
      · exact e
      · rcases List.mem_cons.1 (h.mem_iff.2 List.mem_cons_self) with e2 | e2
        · exact e2.symm
        · have := g2.1 a e
          have := g1.1 b e2
          omega
    subst hab
    rw [perm_le_eq h.cons_inv g1.2 g2.2]
end Go.Proofs.Ytmlklmhochihbaa
