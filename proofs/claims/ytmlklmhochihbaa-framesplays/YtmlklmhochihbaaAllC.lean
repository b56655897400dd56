/- FrMath, Ranges, MapOf, FrMem, OwnRow, FxMem, FrLeaf, FrDo, FxWr, FrPut, FxDo, FrAdd, FxPut, FxAdd, CutFrom. -/
import Derived.Test.YtmlklmhochihbaaAllB
import Derived.Test.YtmlklmhochihbaaAllA
/- Frames as a thing of lists: what each call leaves, and what it tells. -/
namespace Go.Proofs.Ytmlklmhochihbaa
open Go.RowKit

/-- A frame: a key, its bytes, its mark. -/
abbrev FrE := Int × List Nat × Bool
structure St where
  most : Nat
  fr : List FrE
  pins : List (Int × Int)
  sh : List (Int × Int)
  now : Nat
  hl : List Sp
def sums (l : List (Int × Int)) : Int := (l.map (·.2)).sum
def hasK (l : List FrE) (k : Int) : Bool := l.any (fun e => e.1 == k)
namespace St
def new (n : Nat) : St := ⟨n, [], [], [], 0, []⟩
def left (s : St) : Int := (s.most : Int) - sums s.sh
def has (s : St) (k : Int) : Bool := hasK s.fr k
def held (s : St) (t : Int) : Bool := s.sh.any (fun p => p.1 == t)
def resc (s : St) (t n : Int) : Int := if n < 1 then 1 else if s.held t then 6 else if s.left < n then 12 else 0
def res (s : St) (t n : Int) : St := if s.resc t n = 0 then { s with sh := s.sh ++ [(t, n)] } else s
def free (s : St) (t : Int) : St := { s with sh := s.sh.filter (fun p => !(p.1 == t)), pins := s.pins.filter (fun p => !(p.1 == t)) }
def putc (s : St) (k : Int) : Int := if s.has k then 0 else if s.most ≤ s.fr.length then 11 else 0
def laid (l : List FrE) (k : Int) (b : List Nat) (wr : Bool) : List FrE := l.map (fun e => if e.1 == k then (e.1, b, e.2.2 || wr) else e)
def put (s : St) (k : Int) (b : List Nat) (wr : Bool) : St := if s.has k then { s with fr := laid s.fr k b wr } else if s.most ≤ s.fr.length then s else { s with fr := s.fr ++ [(k, b, wr)] }
def bytes (s : St) (k : Int) : List Nat := ((s.fr.find? (fun e => e.1 == k)).map (·.2.1)).getD []
def mark (s : St) (k : Int) : Bool := ((s.fr.find? (fun e => e.1 == k)).map (·.2.2)).getD false
def touch (s : St) (k : Int) (y : Nat) : St := { s with now := s.now + 1, hl := touched 16 s.now s.hl k y }
def warm (s : St) (k : Int) (y : Nat) : St := if s.has k then s.touch k y else s
def clean (s : St) (k : Int) : St := { s with fr := s.fr.map (fun e => if e.1 == k then (e.1, e.2.1, false) else e) }
def pinned (s : St) (k : Int) : Bool := s.pins.any (fun p => p.2 == k)
def dropc (s : St) (k : Int) : Int := if !s.has k then 5 else if s.pinned k then 6 else 0
def drop (s : St) (k : Int) : St := if s.dropc k = 0 then { s with fr := s.fr.filter (fun e => !(e.1 == k)), hl := s.hl.filter (fun e => !(e.1 == k)) } else s
def pin (s : St) (t k : Int) : St := if s.has k then { s with pins := s.pins ++ [(t, k)] } else s
def keys (s : St) : List Int := s.fr.map (·.1)
def loose (s : St) : List Int := (s.keys).filter (fun k => !s.pinned k)
def heat (s : St) (k : Int) : Nat := hof 16 s.now (look s.hl) k
def vicc (s : St) : Int := if s.fr.length < s.most then 5 else if s.loose = [] then 12 else 0
def vic (s : St) : Int := if s.fr.length < s.most then 0 else if s.loose = [] then 0 else coldest s.heat s.loose
end St
theorem hasK_iff {l : List FrE} {k : Int} : hasK l k = true ↔ ∃ e ∈ l, e.1 = k := by unfold hasK; simp
theorem hasK_keys {l : List FrE} {k : Int} : hasK l k = true ↔ k ∈ l.map (·.1) := by unfold hasK; simp
theorem hasK_not {l : List FrE} {k : Int} : hasK l k = false ↔ ∀ e ∈ l, e.1 ≠ k := by unfold hasK; simp
theorem St.has_iff {s : St} {k : Int} : s.has k = true ↔ ∃ e ∈ s.fr, e.1 = k := hasK_iff
theorem St.has_not {s : St} {k : Int} : s.has k = false ↔ ∀ e ∈ s.fr, e.1 ≠ k := hasK_not
theorem St.laid_keys (l : List FrE) (k : Int) (b : List Nat) (wr : Bool) : (St.laid l k b wr).map (·.1) = l.map (·.1) := by
  unfold St.laid
  rw [List.map_map]
  apply List.map_congr_left
  intro e _
  simp only [Function.comp]
  split <;> rfl
theorem clean_keys (l : List FrE) (k : Int) : (l.map (fun e : FrE => if e.1 == k then (e.1, e.2.1, false) else e)).map (·.1) = l.map (·.1) := by
  rw [List.map_map]
  apply List.map_congr_left
  intro e _
  simp only [Function.comp]
  split <;> rfl
/-- One frame a key. -/
theorem one_key {l : List FrE} (h : (l.map (·.1)).Nodup) {e f : FrE} (he : e ∈ l) (hf : f ∈ l) (hk : e.1 = f.1) : e = f := by
  induction l with
  | nil => cases he
  | cons x l ih =>
    rw [List.map_cons, List.nodup_cons] at h
    rcases List.mem_cons.1 he with h1 | h1
    · rcases List.mem_cons.1 hf with h2 | h2
      · rw [h1, h2]
      · exact absurd (List.mem_map.2 ⟨f, h2, by rw [← hk, h1]⟩) h.1
    · rcases List.mem_cons.1 hf with h2 | h2
      · exact absurd (List.mem_map.2 ⟨e, h1, by rw [hk, h2]⟩) h.1
      · exact ih h.2 h1 h2
theorem find_key {l : List FrE} (h : (l.map (·.1)).Nodup) {e : FrE} (he : e ∈ l) : l.find? (fun x => x.1 == e.1) = some e := by
  cases hf : l.find? (fun x => x.1 == e.1) with
  | none => exact absurd (List.find?_eq_none.1 hf e he) (by simp)
  | some f =>
    have h1 := List.mem_of_find?_eq_some hf
    have h2 := List.find?_some hf
    rw [one_key h h1 he (by simpa using h2)]
theorem one_fst {l : List (Int × Int)} (h : (l.map (·.1)).Nodup) {e f : Int × Int} (he : e ∈ l) (hf : f ∈ l) (hk : e.1 = f.1) : e = f := by
  induction l with
  | nil => cases he
  | cons x l ih =>
    rw [List.map_cons, List.nodup_cons] at h
    rcases List.mem_cons.1 he with h1 | h1
    · rcases List.mem_cons.1 hf with h2 | h2
      · rw [h1, h2]
      · exact absurd (List.mem_map.2 ⟨f, h2, by rw [← hk, h1]⟩) h.1
    · rcases List.mem_cons.1 hf with h2 | h2
      · exact absurd (List.mem_map.2 ⟨e, h1, by rw [hk, h2]⟩) h.1
      · exact ih h.2 h1 h2
/-- What holds of frames always. -/
structure Sok (s : St) : Prop where
  m1 : 1 ≤ s.most
  m2 : s.most ≤ 1024
  nd : (s.fr.map (·.1)).Nodup
  le : s.fr.length ≤ s.most
  ik : ∀ e ∈ s.fr, i64 e.1 ∧ e.2.1.length ≤ 1000000
  pk : ∀ p ∈ s.pins, i64 p.1 ∧ i64 p.2 ∧ s.has p.2 = true
  tn : (s.sh.map (·.1)).Nodup
  sk : ∀ p ∈ s.sh, i64 p.1 ∧ 1 ≤ p.2
  sl : sums s.sh ≤ s.most
theorem sums_nil : sums [] = 0 := rfl
theorem sums_cons (p : Int × Int) (l : List (Int × Int)) : sums (p :: l) = p.2 + sums l := by unfold sums; simp
theorem sums_append (l m : List (Int × Int)) : sums (l ++ m) = sums l + sums m := by
  induction l with
  | nil => simp [sums_nil]
  | cons p l ih => rw [List.cons_append, sums_cons, sums_cons, ih]; omega
theorem sums_nonneg {l : List (Int × Int)} (h : ∀ p ∈ l, 1 ≤ p.2) : 0 ≤ sums l := by
  induction l with
  | nil => rw [sums_nil]; omega
  | cons p l ih =>
    rw [sums_cons]
    have := h p List.mem_cons_self
    have := ih (fun q hq => h q (List.mem_cons_of_mem _ hq))
    omega
theorem filter_other {l : List (Int × Int)} {t : Int} (h : t ∉ l.map (·.1)) : l.filter (fun p => !(p.1 == t)) = l := by
  rw [List.filter_eq_self]
  intro p hp
  have : p.1 ≠ t := fun e => h (List.mem_map.2 ⟨p, hp, e⟩)
  simpa using this
/-- What a task has reserved. -/
def share (l : List (Int × Int)) (t : Int) : Int := ((l.find? (fun p => p.1 == t)).map (·.2)).getD 0
theorem share_of {l : List (Int × Int)} (h : (l.map (·.1)).Nodup) {t n : Int} (hp : (t, n) ∈ l) : share l t = n := by
  unfold share
  cases hf : l.find? (fun p => p.1 == t) with
  | none => exact absurd (List.find?_eq_none.1 hf _ hp) (by simp)
  | some q =>
    have h1 := List.mem_of_find?_eq_some hf
    have h2 := List.find?_some hf
    rw [one_fst h h1 hp (by simpa using h2)]
    rfl
theorem share_none {l : List (Int × Int)} {t : Int} (h : ∀ p ∈ l, p.1 ≠ t) : share l t = 0 := by
  unfold share
  rw [List.find?_eq_none.2 (fun p hp => by simpa using h p hp)]
  rfl
theorem sums_filter {l : List (Int × Int)} (h : (l.map (·.1)).Nodup) (t : Int) : sums (l.filter (fun p => !(p.1 == t))) = sums l - share l t := by
  induction l with
  | nil => unfold share; simp [sums_nil]
  | cons p l ih =>
    rw [List.map_cons, List.nodup_cons] at h
    rw [List.filter_cons, sums_cons]
    by_cases hp : p.1 = t
    · have h1 : share (p :: l) t = p.2 := by
        have e : (p.1 == t) = true := by simpa using hp
        simp [share, e]
      rw [if_neg (by simpa using hp), filter_other (by rw [← hp]; exact h.1), h1]; omega
    · have h1 : share (p :: l) t = share l t := by
        have e : (p.1 == t) = false := by simpa using hp
        simp [share, e]
      rw [if_pos (by simpa using hp), sums_cons, ih h.2, h1]; omega
theorem share_nonneg {l : List (Int × Int)} (h : ∀ p ∈ l, 1 ≤ p.2) (t : Int) : 0 ≤ share l t := by
  unfold share
  cases hf : l.find? (fun p => p.1 == t) with
  | none => simp
  | some q =>
    have := h q (List.mem_of_find?_eq_some hf)
    simp; omega
theorem share_le {l : List (Int × Int)} (h : ∀ p ∈ l, 1 ≤ p.2) (hn : (l.map (·.1)).Nodup) (t : Int) : share l t ≤ sums l := by
  have h1 := sums_filter hn t
  have h2 : 0 ≤ sums (l.filter (fun p => !(p.1 == t))) := sums_nonneg (fun p hp => h p (List.mem_filter.1 hp).1)
  omega
theorem share_pos {l : List (Int × Int)} (h : ∀ p ∈ l, 1 ≤ p.2) (t : Int) : decide (0 < share l t) = l.any (fun p => p.1 == t) := by
  unfold share
  cases hf : l.find? (fun p => p.1 == t) with
  | none =>
    have h1 := List.find?_eq_none.1 hf
    rw [show l.any (fun p => p.1 == t) = false by rw [List.any_eq_false]; exact h1]
    simp
  | some q =>
    have h1 := h q (List.mem_of_find?_eq_some hf)
    have h2 := List.find?_some hf
    rw [show l.any (fun p => p.1 == t) = true by rw [List.any_eq_true]; exact ⟨q, List.mem_of_find?_eq_some hf, h2⟩]
    simp; omega
namespace Sok
theorem new {n : Nat} (h1 : 1 ≤ n) (h2 : n ≤ 1024) : Sok (St.new n) :=
  ⟨h1, h2, .nil, Nat.zero_le _, fun e he => absurd he List.not_mem_nil, fun e he => absurd he List.not_mem_nil, .nil, fun e he => absurd he List.not_mem_nil, by show sums [] ≤ _; rw [sums_nil]; show (0 : Int) ≤ (n : Int); omega⟩
theorem sh0 {s : St} (h : Sok s) : 0 ≤ sums s.sh := sums_nonneg (fun p hp => (h.sk p hp).2)
theorem left0 {s : St} (h : Sok s) : 0 ≤ s.left ∧ s.left ≤ s.most := by
  have := h.sl; have := h.sh0; unfold St.left; omega
theorem res {s : St} (h : Sok s) {t n : Int} (ht : i64 t) : Sok (s.res t n) := by
  unfold St.res
  split
  · rename_i h0
    unfold St.resc at h0
    by_cases h1 : n < 1
    · rw [if_pos h1] at h0; cases h0
    rw [if_neg h1] at h0
    by_cases h2 : s.held t = true
    · rw [if_pos h2] at h0; cases h0
    rw [if_neg h2] at h0
    by_cases h3 : s.left < n
    · rw [if_pos h3] at h0; cases h0
    refine ⟨h.m1, h.m2, h.nd, h.le, h.ik, h.pk, ?_, fun p hp => ?_, ?_⟩
    · show ((s.sh ++ [(t, n)]).map (·.1)).Nodup
      rw [List.map_append, List.nodup_append]
      refine ⟨h.tn, by simp, fun a ha b hb e => h2 ?_⟩
      have hb' : b = t := by simpa using hb
      obtain ⟨p, hp, e2⟩ := List.mem_map.1 ha
      unfold St.held
      rw [List.any_eq_true]
      exact ⟨p, hp, by rw [e2, e, hb']; simp⟩
    · rcases List.mem_append.1 hp with hp | hp
      · exact h.sk p hp
      · rw [show p = (t, n) by simpa using hp]
        exact ⟨ht, by omega⟩
    · show sums (s.sh ++ [(t, n)]) ≤ _
      rw [sums_append, sums_cons, sums_nil]
      unfold St.left at h3
      show _ ≤ (s.most : Int)
      omega
  · exact h
theorem free {s : St} (h : Sok s) (t : Int) : Sok (s.free t) := by
  refine ⟨h.m1, h.m2, h.nd, h.le, h.ik, fun p hp => h.pk p (List.mem_filter.1 hp).1, h.tn.sublist (List.filter_sublist.map _), fun p hp => h.sk p (List.mem_filter.1 hp).1, ?_⟩
  show sums (s.sh.filter (fun p => !(p.1 == t))) ≤ _
  rw [sums_filter h.tn]
  have := share_nonneg (fun p hp => (h.sk p hp).2) t
  have := h.sl
  show _ ≤ (s.most : Int)
  omega
theorem put {s : St} (h : Sok s) {k : Int} {b : List Nat} {wr : Bool} (hk : i64 k) (hb : b.length ≤ 1000000) : Sok (s.put k b wr) := by
  unfold St.put
  split
  · have e := St.laid_keys s.fr k b wr
    refine ⟨h.m1, h.m2, by show ((St.laid s.fr k b wr).map (·.1)).Nodup; rw [e]; exact h.nd, by show (St.laid s.fr k b wr).length ≤ _; unfold St.laid; rw [List.length_map]; exact h.le, fun x hx => ?_, fun p hp => ?_, h.tn, h.sk, h.sl⟩
    · obtain ⟨y, hy, rfl⟩ := List.mem_map.1 hx
      have := h.ik y hy
      split
      · exact ⟨this.1, hb⟩
      · exact this
    · have := h.pk p hp
      refine ⟨this.1, this.2.1, ?_⟩
      have h3 := this.2.2
      unfold St.has at h3 ⊢
      rw [hasK_keys] at h3 ⊢
      rw [e]; exact h3
  · rename_i hn
    split
    · exact h
    · rename_i hl
      refine ⟨h.m1, h.m2, ?_, ?_, fun x hx => ?_, fun p hp => ?_, h.tn, h.sk, h.sl⟩
      · show ((s.fr ++ [(k, b, wr)]).map (·.1)).Nodup
        rw [List.map_append, List.nodup_append]
        refine ⟨h.nd, by simp, fun a ha c hc e => hn ?_⟩
        have hc' : c = k := by simpa using hc
        unfold St.has
        rw [hasK_keys, ← hc', ← e]
        exact ha
      · show (s.fr ++ [(k, b, wr)]).length ≤ _
        rw [List.length_append, List.length_singleton]
        show _ ≤ s.most
        omega
      · rcases List.mem_append.1 hx with hx | hx
        · exact h.ik x hx
        · rw [show x = (k, b, wr) by simpa using hx]
          exact ⟨hk, hb⟩
      · have := h.pk p hp
        refine ⟨this.1, this.2.1, ?_⟩
        have h3 := this.2.2
        unfold St.has at h3 ⊢
        rw [hasK_keys] at h3 ⊢
        rw [List.map_append]
        exact List.mem_append_left _ h3
theorem touch {s : St} (h : Sok s) (k : Int) (y : Nat) : Sok (s.touch k y) := ⟨h.m1, h.m2, h.nd, h.le, h.ik, h.pk, h.tn, h.sk, h.sl⟩
theorem warm {s : St} (h : Sok s) (k : Int) (y : Nat) : Sok (s.warm k y) := by
  unfold St.warm
  split
  · exact h.touch k y
  · exact h
theorem clean {s : St} (h : Sok s) (k : Int) : Sok (s.clean k) := by
  have e := clean_keys s.fr k
  refine ⟨h.m1, h.m2, ?_, ?_, fun x hx => ?_, fun p hp => ?_, h.tn, h.sk, h.sl⟩
  · unfold St.clean; rw [e]; exact h.nd
  · unfold St.clean; rw [List.length_map]; exact h.le
  · unfold St.clean at hx
    obtain ⟨y, hy, rfl⟩ := List.mem_map.1 hx
    have := h.ik y hy
    split
    · exact this
    · exact this
  · have := h.pk p hp
    refine ⟨this.1, this.2.1, ?_⟩
    have h3 := this.2.2
    unfold St.has at h3 ⊢
    rw [hasK_keys] at h3 ⊢
    unfold St.clean
    rw [e]; exact h3
theorem drop {s : St} (h : Sok s) (k : Int) : Sok (s.drop k) := by
  unfold St.drop
  split
  · rename_i h0
    refine ⟨h.m1, h.m2, h.nd.sublist (List.filter_sublist.map _), Nat.le_trans (List.length_filter_le _ _) h.le, fun x hx => h.ik x (List.mem_filter.1 hx).1, fun p hp => ?_, h.tn, h.sk, h.sl⟩
    have := h.pk p hp
    refine ⟨this.1, this.2.1, ?_⟩
    have hne : p.2 ≠ k := fun e => by
      unfold St.dropc at h0
      have hpn : s.pinned k = true := by unfold St.pinned; rw [List.any_eq_true]; exact ⟨p, hp, by simpa using e⟩
      rw [hpn] at h0
      split at h0 <;> simp at h0
    obtain ⟨x, hx, e⟩ := St.has_iff.1 this.2.2
    exact St.has_iff.2 ⟨x, List.mem_filter.2 ⟨hx, by rw [e]; simpa using hne⟩, e⟩
  · exact h
theorem pin {s : St} (h : Sok s) {t k : Int} (ht : i64 t) (hk : i64 k) : Sok (s.pin t k) := by
  unfold St.pin
  split
  · rename_i hh
    refine ⟨h.m1, h.m2, h.nd, h.le, h.ik, fun p hp => ?_, h.tn, h.sk, h.sl⟩
    rcases List.mem_append.1 hp with hp | hp
    · exact h.pk p hp
    · rw [show p = (t, k) by simpa using hp]
      exact ⟨ht, hk, hh⟩
  · exact h
end Sok
/-- How many of a list of pins are of a key. -/
def cnt (l : List (Int × Int)) (k : Int) : Nat := (l.filter (fun p => p.2 == k)).length
theorem cnt_perm {l m : List (Int × Int)} (h : l.Perm m) (k : Int) : cnt l k = cnt m k := (h.filter _).length_eq
theorem cnt_cons (p : Int × Int) (l : List (Int × Int)) (k : Int) : cnt (p :: l) k = cnt l k + (if p.2 = k then 1 else 0) := by
  unfold cnt
  rw [List.filter_cons]
  by_cases h : p.2 = k
  · simp [h]
  · simp [h]
theorem cnt_pos {l m : List (Int × Int)} (h : ∀ x, x ∈ l ↔ x ∈ m) (k : Int) : decide (0 < cnt l k) = m.any (fun p => p.2 == k) := by
  rw [Bool.eq_iff_iff, decide_eq_true_eq, List.any_eq_true]
  unfold cnt
  rw [List.length_pos_iff_exists_mem]
  constructor
  · rintro ⟨x, hx⟩
    obtain ⟨h1, h2⟩ := List.mem_filter.1 hx
    exact ⟨x, (h x).1 h1, h2⟩
  · rintro ⟨x, h1, h2⟩
    exact ⟨x, List.mem_filter.2 ⟨(h x).2 h1, h2⟩⟩
theorem cnt_le (l : List (Int × Int)) (k : Int) : cnt l k ≤ l.length := List.length_filter_le _ _
/-- The coldest one does not hang on the order. -/
theorem colder_total (H : Int → Nat) {a b : Int} (h : a ≠ b) : colder H a b = true ∨ colder H b a = true := by
  unfold colder ls sa
  simp
  omega
theorem colder_not (H : Int → Nat) {a b : Int} (h1 : colder H a b = true) (h2 : colder H b a = true) : False := by
  unfold colder ls sa at h1 h2
  simp at h1 h2
  omega
theorem colder_trans (H : Int → Nat) {a b c : Int} (h1 : colder H a b = true) (h2 : colder H b c = true) : colder H a c = true := by
  unfold colder ls sa at *
  simp at *
  omega
theorem coldest_min (H : Int → Nat) : ∀ ks : List Int, ∀ x ∈ ks, colder H x (coldest H ks) = false := by
  intro ks
  have irr : ∀ a, colder H a a = false := fun a => by
    cases h : colder H a a with
    | false => rfl
    | true => exact (colder_not H h h).elim
  cases ks with
  | nil => intro x hx; cases hx
  | cons k ks =>
    induction ks generalizing k with
    | nil => intro x hx; rw [show x = k by simpa using hx]; exact irr k
    | cons y r ih =>
      intro x hx
      rw [coldest_cons]
      have key : ∀ m z, colder H z m = true ∨ z = m → (∀ q ∈ z :: r, colder H q (coldest H (z :: r)) = false) → colder H m (coldest H (z :: r)) = false := by
        intro m z hz hq
        cases hc : colder H m (coldest H (z :: r)) with
        | false => rfl
        | true =>
          rcases hz with hz | hz
          · have := hq z List.mem_cons_self
            rw [colder_trans H hz hc] at this; cases this
          · rw [← hz] at hc
            have := hq z List.mem_cons_self
            rw [hc] at this; cases this
      by_cases hc : colder H y k = true
      · rw [if_pos hc]
        rcases List.mem_cons.1 hx with rfl | hx
        · exact key x y (.inl hc) (ih y)
        · exact ih y x hx
      · rw [if_neg hc]
        rcases List.mem_cons.1 hx with rfl | hx
        · exact ih _ _ List.mem_cons_self
        · rcases List.mem_cons.1 hx with rfl | hx
          · by_cases he : k = x
            · exact key x k (.inr he) (ih k)
            · rcases colder_total H he with h5 | h5
              · exact key x k (.inl h5) (ih k)
              · exact absurd h5 hc
          · exact ih k x (List.mem_cons_of_mem _ hx)
theorem coldest_perm (H : Int → Nat) {l m : List Int} (h : l.Perm m) : coldest H l = coldest H m := by
  by_cases hl : l = []
  · subst hl
    rw [List.Perm.nil_eq h]
  · have hm : m ≠ [] := fun e => hl (by subst e; exact List.Perm.eq_nil h)
    have h1 := coldest_mem H l hl
    have h2 := coldest_mem H m hm
    have h3 := coldest_min H l _ (h.mem_iff.2 h2)
    have h4 := coldest_min H m _ (h.mem_iff.1 h1)
    by_cases he : coldest H l = coldest H m
    · exact he
    · rcases colder_total H he with h5 | h5
      · rw [h5] at h4; cases h4
      · rw [h5] at h3; cases h3
/-- Lists that rise and have the same members are one. -/
theorem perm_le_eq : ∀ {l1 l2 : List Int}, l1.Perm l2 → l1.Pairwise (· ≤ ·) → l2.Pairwise (· ≤ ·) → l1 = l2
  | [], l2, h, _, _ => (List.Perm.nil_eq h)
  | a :: l1, [], h, _, _ => absurd h.length_eq (by simp)
  | a :: l1, b :: l2, h, h1, h2 => by
    have g1 := List.pairwise_cons.1 h1
    have g2 := List.pairwise_cons.1 h2
    have hab : a = b := by
      rcases List.mem_cons.1 (h.mem_iff.1 List.mem_cons_self) with e | e
      · exact e
      · rcases List.mem_cons.1 (h.mem_iff.2 List.mem_cons_self) with e2 | e2
        · exact e2.symm
        · have := g2.1 a e
          have := g1.1 b e2
          omega
    subst hab
    rw [perm_le_eq h.cons_inv g1.2 g2.2]
end Go.Proofs.Ytmlklmhochihbaa
/- Operations on maps, one by one; a key is taken out while the map is ranged over. -/
namespace Go.Proofs.Ytmlklmhochihbaa
open Go.RowKit Go.ChangeMaps Go.WideMaps Go.MapKept Go.Maps

section
variable {w w' : World} {o : Oper} {ρ : Operand → Value}
theorem exec_range {t : TypeId} {x : Operand} {u r : Value} (ho : o.op = .range t x) (hx : ρ x = u) (h : (Instr.range t u).run Try.prog w = .ok r w') : (execOp ρ o).run Try.prog w = .ok (.value r) w' := by
  unfold execOp
  simp only [ho, hx, Sem.run_bind, h, Result.andThen_ok, Sem.run_pure]
theorem exec_next {x : Operand} {u r : Value} {ty : TypeId} (ho : o.op = .next x false) (hx : ρ x = u) (hty : o.type = ty) (h : (Instr.next u false ty).run Try.prog w = .ok r w') : (execOp ρ o).run Try.prog w = .ok (.value r) w' := by
  unfold execOp
  simp only [ho, hx, hty, Sem.run_bind, h, Result.andThen_ok, Sem.run_pure]
theorem exec_entry {x : Operand} {u r : Value} (ho : o.op = .entry x) (hx : ρ x = u) (h : (Instr.entry u).run Try.prog w = .ok r w') : (execOp ρ o).run Try.prog w = .ok (.value r) w' := by
  unfold execOp
  simp only [ho, hx, Sem.run_bind, h, Result.andThen_ok, Sem.run_pure]
theorem exec_clear {t : TypeId} {x : Operand} {u r : Value} (ho : o.op = .call { callee := .builtin .clear, args := #[x], argTypes := #[t] }) (hx : ρ x = u) (h : (Builtin.clear_ #[t] o.type #[u]).run Try.prog w = .ok r w') : (execOp ρ o).run Try.prog w = .ok (.value r) w' := by
  unfold execOp
  simp only [ho, resolve, invoke, builtin, Sem.run_bind, Sem.run_pure, Result.andThen_ok, List.map_toArray, List.map_cons, List.map_nil, hx, h]
theorem exec_delete {t k : TypeId} {x y : Operand} {u v r : Value} (ho : o.op = .call { callee := .builtin .delete, args := #[x, y], argTypes := #[t, k] }) (hx : ρ x = u) (hy : ρ y = v) (h : (Builtin.delete_ #[t, k] o.type #[u, v]).run Try.prog w = .ok r w') : (execOp ρ o).run Try.prog w = .ok (.value r) w' := by
  unfold execOp
  simp only [ho, resolve, invoke, builtin, Sem.run_bind, Sem.run_pure, Result.andThen_ok, List.map_toArray, List.map_cons, List.map_nil, hx, hy, h]
end
/-- The act of a goal brought down. -/
theorem act_down {P : Program} {c : Code} {Q : Exit → Act → World → Prop} {a : Act} {w : World} (h : ∀ K : Act → Prop, (∀ a, Code.wp P c Q a w → K a) → K a) : Code.wp P c Q a w := h _ (fun _ h => h)
/-- How many an iterator has left. -/
def leftN (w : World) (r b : Nat) : Nat := match w.heap[r]?, w.heap[b]? with
  | some (.mapIter _ _ seen _), some (.map es _) => (leftOf es seen).size
  | _, _ => 0
theorem Rg.left {w : World} {r b : Nat} {M L : List (Value × Value)} (h : Rg w r b M L) : leftN w r b = L.length := by
  obtain ⟨es, clock, seen, c0, h1, -, h2, -, -, -, rfl⟩ := h.ex
  unfold leftN
  rw [h1, h2]
  simp
section
variable {P : Program} {w w' : World} {b r : Nat} {M L : List (Value × Value)} {t kt et : TypeId}
theorem Mq.len (ht : P.underlying t = some (.map kt et)) (h : Mq P kt w b M) (ty : TypeId) : (Builtin.len_ #[t] ty #[.map (some b)]).run P w = .ok (.int .i64 (M.length : Int)) w := by
  obtain ⟨⟨es, clock, hb, rfl, -⟩, -⟩ := h
  simp [Builtin.len_, run_underlying ht, MapKept.run_getObj_map hb, goInt, Result.andThen]
theorem exec_lenM {o : Oper} {ρ : Operand → Value} {x : Operand} {u r : Value} (ho : o.op = .call { callee := .builtin .len, args := #[x], argTypes := #[t] }) (hx : ρ x = u) (h : (Builtin.len_ #[t] o.type #[u]).run P w = .ok r w) : (execOp ρ o).run P w = .ok (.value r) w := by
  unfold execOp
  simp only [ho, resolve, invoke, builtin, Sem.run_bind, Sem.run_pure, Result.andThen_ok, List.map_toArray, List.map_cons, List.map_nil, hx, h]
/-- An entry that was handed out is taken out: what is left stays. -/
theorem Rg.del (K : Keyed P kt) (ht : P.underlying t = some (.map kt et)) (h : Mq P kt w b M) (hr : Rg w r b M L) {key v : Value} {l : Lit} (hkey : keyOf P kt key = some l) (hin : (key, v) ∈ M) (hout : ∀ u, (key, u) ∉ L) (ty : TypeId) :
    ∃ w' M', (Builtin.delete_ #[t, kt] ty #[.map (some b), key]).run P w = .ok (.tuple #[]) w' ∧ Mq P kt w' b M' ∧ Rg w' r b M' L ∧ But (· = b) w w' ∧ w'.heap.size = w.heap.size ∧ ∀ k u, (k, u) ∈ M' ↔ (k, u) ∈ M ∧ k ≠ key := by
  obtain ⟨w', M', hrun, hM, hbut, hsz, hmem⟩ := h.del (t := t) (et := et) K ht hkey ty
  refine ⟨w', M', hrun, hM, ?_, hbut, hsz, hmem⟩
  have hne := hr.ne
  have hlt := hr.lt
  obtain ⟨es, clock, seen, c0, h1, h2, h3, hMe, h4, h5, h6⟩ := hr.ex
  have hk := h.key
  have hks : ∀ e ∈ es.toList, ∃ l, keyOf P kt e.key = some l := fun e he => hk (e.key, e.val) (by rw [← hMe]; exact List.mem_map.2 ⟨e, he, rfl⟩)
  rcases K.find w hkey es.toList hks with ⟨g1, g2⟩ | ⟨j, e0, g1, g2, g3⟩
  · rw [← hMe] at hin
    obtain ⟨e, he, e2⟩ := List.mem_map.1 hin
    exact absurd (Prod.mk.inj e2).1 (g2 e he)
  have hjs : j < es.size := by
    have := (List.getElem?_eq_some_iff.1 g2).1
    simpa using this
  have hsub : (es.eraseIdxIfInBounds j).toList = es.toList.eraseIdx j := by
    unfold Array.eraseIdxIfInBounds
    rw [dif_pos hjs]
    simp
  have hrun2 : (Builtin.delete_ #[t, kt] ty #[.map (some b), key]).run P w = .ok (.tuple #[]) (setBlock w b (.map (es.eraseIdxIfInBounds j) clock)) := by
    simp [Builtin.delete_, run_underlying ht, MapKept.run_getObj_map h3, K.check w _ hkey, g1, MapKept.run_setObj_map _ h3, Result.andThen, setBlock]
  rw [hrun] at hrun2
  have hw' : w' = setBlock w b (.map (es.eraseIdxIfInBounds j) clock) := by
    simp only [Result.ok.injEq, true_and] at hrun2
    exact hrun2
  have hb' : w'.heap[b]? = some (.map (es.eraseIdxIfInBounds j) clock) := by rw [hw']; exact (setB h3 _ _).1
  have hr' : w'.heap[r]? = some (.mapIter (some b) clock seen c0) := (hbut.block r hlt.1 hne).trans h1
  obtain ⟨es2, clock2, hb2, hM2, -⟩ := hM.blk
  rw [hb'] at hb2
  simp only [Option.some.injEq, Obj.map.injEq] at hb2
  obtain ⟨rfl, -⟩ := hb2
  have hsl : (es.toList.eraseIdx j).Sublist es.toList := List.eraseIdx_sublist _ _
  refine ⟨_, clock, seen, c0, hr', h2, hb', hM2, fun x hx => ?_, ?_, ?_⟩
  · rw [hsub] at hx; exact h4 x (hsl.subset hx)
  · rw [hsub]; exact h5.sublist (hsl.map _)
  · rw [← h6]
    congr 1
    unfold leftOf
    rw [Array.toList_filter, Array.toList_filter, hsub]
    have hseen : seen.contains e0.born = true := by
      cases hc : seen.contains e0.born with
      | true => rfl
      | false =>
        refine absurd ?_ (hout e0.val)
        rw [← h6]
        refine List.mem_map.2 ⟨e0, ?_, by rw [g3]⟩
        unfold leftOf
        rw [Array.toList_filter]
        exact List.mem_filter.2 ⟨List.mem_of_getElem? g2, by rw [hc]; rfl⟩
    obtain ⟨hj2, hj3⟩ := List.getElem?_eq_some_iff.1 g2
    have e1 : es.toList = es.toList.take j ++ e0 :: es.toList.drop (j + 1) := by
      rw [← hj3, List.getElem_cons_drop, List.take_append_drop]
    rw [List.eraseIdx_eq_take_drop_succ]
    conv => rhs; rw [e1]
    rw [List.filter_append, List.filter_append, List.filter_cons, if_neg (by rw [hseen]; simp)]
end
end Go.Proofs.Ytmlklmhochihbaa
/- A map in memory that holds what is on a list: look-ups, updates, deletes, ranges. -/
namespace Go.Proofs.Ytmlklmhochihbaa
open Go.RowKit Go.Maps

/-- The map in block b has, for each x of the list, the key kv x with the element vv x; nothing else. -/
def MapOf {α : Type} (kt : TypeId) (w : World) (b : Nat) (kv vv : α → Value) (l : List α) : Prop :=
  ∃ M, Mq Try.prog kt w b M ∧ (∀ p ∈ M, ∃ x ∈ l, p = (kv x, vv x)) ∧ ∀ x ∈ l, (kv x, vv x) ∈ M
section
variable {α : Type} {kt et t : TypeId} {w w' : World} {b : Nat} {kv vv vv' : α → Value} {l l' : List α} {R : Nat → Prop}
theorem MapOf.lt (h : MapOf kt w b kv vv l) : b < w.heap.size := by obtain ⟨M, h1, -⟩ := h; exact h1.lt
theorem MapOf.but (h : MapOf kt w b kv vv l) (k : But R w w') (hr : ¬ R b) : MapOf kt w' b kv vv l := by
  obtain ⟨M, h1, h2, h3⟩ := h
  exact ⟨M, h1.but k hr, h2, h3⟩
theorem MapOf.grow (h : MapOf kt w b kv vv l) (k : Grow w w') : MapOf kt w' b kv vv l := h.but k (fun h => h)
theorem MapOf.mem (h : MapOf kt w b kv vv l) (hm : ∀ x, x ∈ l ↔ x ∈ l') : MapOf kt w b kv vv l' := by
  obtain ⟨M, h1, h2, h3⟩ := h
  refine ⟨M, h1, fun p hp => ?_, fun x hx => h3 x ((hm x).2 hx)⟩
  obtain ⟨x, hx, e⟩ := h2 p hp
  exact ⟨x, (hm x).1 hx, e⟩
theorem MapOf.congr (h : MapOf kt w b kv vv l) (hv : ∀ x ∈ l, vv x = vv' x) : MapOf kt w b kv vv' l := by
  obtain ⟨M, h1, h2, h3⟩ := h
  refine ⟨M, h1, fun p hp => ?_, fun x hx => ?_⟩
  · obtain ⟨x, hx, e⟩ := h2 p hp
    exact ⟨x, hx, by rw [← hv x hx]; exact e⟩
  · rw [← hv x hx]; exact h3 x hx
theorem MapOf.new (g : Nat) (h : w.heap.size = g) (kv vv : α → Value) : MapOf kt (w.alloc (.map #[] 0)) g kv vv [] :=
  ⟨[], Mq.new g h, fun _ hp => absurd hp List.not_mem_nil, fun _ hx => absurd hx List.not_mem_nil⟩
theorem MapOf.look (K : Keyed Try.prog kt) (ht : Try.prog.underlying t = some (.map kt et)) {z : Value} (hz : ∀ w, (zeroValue et).run Try.prog w = .ok z w) (h : MapOf kt w b kv vv l) {key : Value} {lt : Lit} (hkey : keyOf Try.prog kt key = some lt) (c : Bool) :
    (∀ x ∈ l, kv x = key → (Instr.lookup t (.map (some b)) key c).run Try.prog w = .ok (if c then .tuple #[vv x, .bool true] else vv x) w) ∧ ((∀ x ∈ l, kv x ≠ key) → (Instr.lookup t (.map (some b)) key c).run Try.prog w = .ok (if c then .tuple #[z, .bool false] else z) w) := by
  obtain ⟨M, h1, h2, h3⟩ := h
  have hl := h1.look (t := t) (et := et) K ht (hz w) hkey c
  refine ⟨fun x hx e => ?_, fun hn => hl.2 (fun p hp e => ?_)⟩
  · refine hl.1 _ ?_
    rw [← e]; exact h3 x hx
  · obtain ⟨x, hx, e2⟩ := h2 p hp
    exact hn x hx (by rw [← e, e2])
theorem MapOf.put (K : Keyed Try.prog kt) (ht : Try.prog.underlying t = some (.map kt et)) (h : MapOf kt w b kv vv l) (x : α) {lt : Lit} (hkey : keyOf Try.prog kt (kv x) = some lt) (hx : ∀ y ∈ l, kv y ≠ kv x) :
    ∃ w', (Instr.mapUpdate t (.map (some b)) (kv x) (vv x)).run Try.prog w = .ok () w' ∧ MapOf kt w' b kv vv (l ++ [x]) ∧ But (· = b) w w' ∧ w'.heap.size = w.heap.size := by
  obtain ⟨M, h1, h2, h3⟩ := h
  obtain ⟨w', M', hr, hM, hb, hs, hin, hot⟩ := h1.put (t := t) (et := et) (v := vv x) K ht hkey
  refine ⟨w', hr, ⟨M', hM, fun p hp => ?_, fun y hy => ?_⟩, hb, hs⟩
  · by_cases hk : p.1 = kv x
    · have hpv : p.2 = vv x := hM.uniq (k := kv x) (by rw [← hk]; exact hp) hin
      exact ⟨x, List.mem_append_right _ List.mem_cons_self, by rw [← hk, ← hpv]⟩
    · obtain ⟨y, hy, e⟩ := h2 p ((hot p.1 p.2 hk).1 hp)
      exact ⟨y, List.mem_append_left _ hy, e⟩
  · rcases List.mem_append.1 hy with hy | hy
    · exact (hot _ _ (hx y hy)).2 (h3 y hy)
    · rw [show y = x by simpa using hy]; exact hin
theorem MapOf.del (K : Keyed Try.prog kt) (ht : Try.prog.underlying t = some (.map kt et)) (h : MapOf kt w b kv vv l) {key : Value} {lt : Lit} (hkey : keyOf Try.prog kt key = some lt) (hl : ∀ x, x ∈ l' ↔ x ∈ l ∧ kv x ≠ key) (ty : TypeId) :
    ∃ w', (Builtin.delete_ #[t, kt] ty #[.map (some b), key]).run Try.prog w = .ok (.tuple #[]) w' ∧ MapOf kt w' b kv vv l' ∧ But (· = b) w w' ∧ w'.heap.size = w.heap.size := by
  obtain ⟨M, h1, h2, h3⟩ := h
  obtain ⟨w', M', hr, hM, hb, hs, hot⟩ := h1.del (t := t) (et := et) K ht hkey ty
  refine ⟨w', hr, ⟨M', hM, fun p hp => ?_, fun y hy => ?_⟩, hb, hs⟩
  · obtain ⟨h6, h7⟩ := (hot p.1 p.2).1 hp
    obtain ⟨x, hx, e⟩ := h2 p h6
    exact ⟨x, (hl x).2 ⟨hx, fun e2 => h7 (by rw [e]; exact e2)⟩, e⟩
  · obtain ⟨h6, h7⟩ := (hl y).1 hy
    exact (hot _ _).2 ⟨h3 y h6, h7⟩
theorem nodup_len {β : Type} : ∀ {l m : List β}, l.Nodup → (∀ x ∈ l, x ∈ m) → l.length ≤ m.length := by
  intro l
  induction l with
  | nil => intro m _ _; exact Nat.zero_le _
  | cons x l ih =>
    intro m hn hm
    rw [List.nodup_cons] at hn
    have hx := hm x List.mem_cons_self
    obtain ⟨m1, m2, rfl⟩ := List.append_of_mem hx
    have := ih (m := m1 ++ m2) hn.2 (fun y hy => by
      have h1 := hm y (List.mem_cons_of_mem _ hy)
      rcases List.mem_append.1 h1 with h2 | h2
      · exact List.mem_append_left _ h2
      · rcases List.mem_cons.1 h2 with h3 | h3
        · exact absurd (by rw [← h3]; exact hy) hn.1
        · exact List.mem_append_right _ h3)
    rw [List.length_append] at this ⊢
    rw [List.length_cons, List.length_cons]
    omega
theorem MapOf.keys {M : List (Value × Value)} (h1 : Mq Try.prog kt w b M) : (M.map (·.1)).Nodup := List.pairwise_map.2 h1.apart
theorem MapOf.size {M : List (Value × Value)} (h1 : Mq Try.prog kt w b M) (h2 : ∀ p ∈ M, ∃ x ∈ l, p = (kv x, vv x)) (h3 : ∀ x ∈ l, (kv x, vv x) ∈ M) (hn : (l.map kv).Nodup) : M.length = l.length := by
  have a1 := nodup_len (m := l.map kv) (MapOf.keys h1) (fun x hx => by
    obtain ⟨p, hp, rfl⟩ := List.mem_map.1 hx
    obtain ⟨y, hy, e⟩ := h2 p hp
    exact List.mem_map.2 ⟨y, hy, by rw [e]⟩)
  have a2 := nodup_len (m := M.map (·.1)) hn (fun x hx => by
    obtain ⟨y, hy, rfl⟩ := List.mem_map.1 hx
    exact List.mem_map.2 ⟨_, h3 y hy, rfl⟩)
  rw [List.length_map, List.length_map] at a1 a2
  omega
theorem MapOf.len (ht : Try.prog.underlying t = some (.map kt et)) (h : MapOf kt w b kv vv l) (hn : (l.map kv).Nodup) (ty : TypeId) : (Builtin.len_ #[t] ty #[.map (some b)]).run Try.prog w = .ok (.int .i64 (l.length : Int)) w := by
  obtain ⟨M, h1, h2, h3⟩ := h
  rw [← MapOf.size h1 h2 h3 hn]
  exact h1.len ht ty
theorem nodup_map {β : Type} {f : α → β} {l : List α} (hf : ∀ x ∈ l, ∀ y ∈ l, f x = f y → x = y) (h : l.Nodup) : (l.map f).Nodup :=
  List.pairwise_map.2 (h.imp_of_mem (fun hx hy hne e => hne (hf _ hx _ hy e)))
/-- A map that is ranged over: these of the list are still to come. -/
structure Ranged {α : Type} (kt : TypeId) (w : World) (r b : Nat) (kv vv : α → Value) (l lf : List α) : Prop where
  ex : ∃ M L, Mq Try.prog kt w b M ∧ Rg w r b M L ∧ (∀ p ∈ M, ∃ x ∈ l, p = (kv x, vv x)) ∧ (∀ x ∈ l, (kv x, vv x) ∈ M) ∧ L.Perm (lf.map (fun x => (kv x, vv x)))
  sub : ∀ x ∈ lf, x ∈ l
theorem Ranged.map {r : Nat} {lf : List α} (h : Ranged kt w r b kv vv l lf) : MapOf kt w b kv vv l := by
  obtain ⟨M, L, h1, -, h2, h3, -⟩ := h.ex
  exact ⟨M, h1, h2, h3⟩
theorem Ranged.lt {r : Nat} {lf : List α} (h : Ranged kt w r b kv vv l lf) : r < w.heap.size ∧ b < w.heap.size ∧ r ≠ b := by
  obtain ⟨M, L, -, h1, -⟩ := h.ex
  exact ⟨h1.lt.1, h1.lt.2, h1.ne⟩
theorem Ranged.but {r : Nat} {lf : List α} (h : Ranged kt w r b kv vv l lf) (k : But R w w') (h1 : ¬ R r) (h2 : ¬ R b) : Ranged kt w' r b kv vv l lf := by
  obtain ⟨M, L, g1, g2, g3⟩ := h.ex
  exact ⟨⟨M, L, g1.but k h2, g2.but k h1 h2, g3⟩, h.sub⟩
theorem Ranged.grow {r : Nat} {lf : List α} (h : Ranged kt w r b kv vv l lf) (k : Grow w w') : Ranged kt w' r b kv vv l lf := h.but k (fun h => h) (fun h => h)
theorem Ranged.left {r : Nat} {lf : List α} (h : Ranged kt w r b kv vv l lf) : leftN w r b = lf.length := by
  obtain ⟨M, L, -, h1, -, -, h2⟩ := h.ex
  rw [h1.left, h2.length_eq, List.length_map]
theorem MapOf.range (ht : Try.prog.underlying t = some (.map kt et)) (h : MapOf kt w b kv vv l) (hn : (l.map kv).Nodup) : ∃ w', (Instr.range t (.map (some b))).run Try.prog w = .ok (.pointer (some ⟨w.heap.size, 0, none⟩)) w' ∧ Grow w w' ∧ w'.heap.size = w.heap.size + 1 ∧ Ranged kt w' w.heap.size b kv vv l l := by
  obtain ⟨M, h1, h2, h3⟩ := h
  obtain ⟨w', hr, hb, hs, hg⟩ := h1.range (t := t) (et := et) ht
  refine ⟨w', hr, hb, hs, ⟨M, M, h1.but hb (fun h => h), hg, h2, h3, ?_⟩, fun x hx => hx⟩
  refine (List.perm_ext_iff_of_nodup ?_ ?_).2 (fun p => ⟨fun hp => ?_, fun hp => ?_⟩)
  · exact h1.apart.imp (fun h e => h (by rw [e]))
  · have : ((l.map fun x => (kv x, vv x)).map (·.1)).Nodup := by rw [List.map_map]; exact hn
    exact (List.pairwise_map.1 this).imp (fun h e => h (by rw [e]))
  · obtain ⟨x, hx, e⟩ := h2 p hp
    exact List.mem_map.2 ⟨x, hx, e.symm⟩
  · obtain ⟨x, hx, rfl⟩ := List.mem_map.1 hp
    exact h3 x hx
/-- The next one, whichever it is. -/
theorem Ranged.next {r : Nat} {lf : List α} (h : Ranged kt w r b kv vv l lf) (ty : TypeId) :
    (lf = [] ∧ (Instr.next (.pointer (some ⟨r, 0, none⟩)) false ty).run Try.prog w = .ok (.tuple #[.bool false]) w) ∨
    ∃ x lf' w', x ∈ l ∧ lf.Perm (x :: lf') ∧ (Instr.next (.pointer (some ⟨r, 0, none⟩)) false ty).run Try.prog w = .ok (.tuple #[.bool true, kv x, vv x]) w' ∧ But (· = r) w w' ∧ w'.heap.size = w.heap.size ∧ Ranged kt w' r b kv vv l lf' ∧ (Instr.entry (.pointer (some ⟨r, 0, none⟩))).run Try.prog w' = .ok (.tuple #[kv x, vv x]) w' := by
  obtain ⟨M, L, h1, h2, h3, h4, h5⟩ := h.ex
  have hne := h2.ne
  rcases h2.next (P := Try.prog) ty with ⟨rfl, hr⟩ | ⟨p, L', w', hp, hperm, hr, hb, hs, hg, hen⟩
  · left
    have := h5.length_eq
    rw [List.length_map] at this
    exact ⟨List.eq_nil_of_length_eq_zero (by simpa using this.symm), hr⟩
  · right
    have hpl : p ∈ lf.map (fun x => (kv x, vv x)) := h5.mem_iff.1 (hperm.mem_iff.2 List.mem_cons_self)
    obtain ⟨x, hx, rfl⟩ := List.mem_map.1 hpl
    have hxl := h.sub x hx
    have hsub := h.sub
    obtain ⟨l1, l2, rfl⟩ := List.append_of_mem hx
    have hpm : (l1 ++ x :: l2).Perm (x :: (l1 ++ l2)) := List.perm_middle
    have h6 : L'.Perm ((l1 ++ l2).map (fun x => (kv x, vv x))) := ((hperm.symm.trans h5).trans (hpm.map _)).cons_inv
    exact ⟨x, l1 ++ l2, w', hxl, hpm, hr, hb, hs, ⟨⟨M, L', h1.but hb (fun e => hne e.symm), hg, h3, h4, h6⟩, fun y hy => hsub y (hpm.mem_iff.2 (List.mem_cons_of_mem _ hy))⟩, hen⟩
/-- One that was handed out is taken out. -/
theorem Ranged.del {r : Nat} {lf : List α} (K : Keyed Try.prog kt) (ht : Try.prog.underlying t = some (.map kt et)) (h : Ranged kt w r b kv vv l lf) {x : α} (hx : x ∈ l) {lt : Lit} (hkey : keyOf Try.prog kt (kv x) = some lt) (hout : ∀ y ∈ lf, kv y ≠ kv x) (hl : ∀ y, y ∈ l' ↔ y ∈ l ∧ kv y ≠ kv x) (ty : TypeId) :
    ∃ w', (Builtin.delete_ #[t, kt] ty #[.map (some b), kv x]).run Try.prog w = .ok (.tuple #[]) w' ∧ Ranged kt w' r b kv vv l' lf ∧ But (· = b) w w' ∧ w'.heap.size = w.heap.size := by
  obtain ⟨M, L, h1, h2, h3, h4, h5⟩ := h.ex
  obtain ⟨w', M', hr, hM, hg, hb, hs, hot⟩ := Rg.del (t := t) (et := et) K ht h1 h2 hkey (h4 x hx) (fun u hu => by
    obtain ⟨y, hy, e⟩ := List.mem_map.1 (h5.mem_iff.1 hu)
    exact hout y hy (Prod.mk.inj e).1) ty
  refine ⟨w', hr, ⟨⟨M', L, hM, hg, fun p hp => ?_, fun y hy => ?_, h5⟩, fun y hy => (hl y).2 ⟨h.sub y hy, hout y hy⟩⟩, hb, hs⟩
  · obtain ⟨h6, h7⟩ := (hot p.1 p.2).1 hp
    obtain ⟨y, hy, e⟩ := h3 p h6
    exact ⟨y, (hl y).2 ⟨hy, fun e2 => h7 (by rw [e]; exact e2)⟩, e⟩
  · obtain ⟨h6, h7⟩ := (hl y).1 hy
    exact (hot _ _).2 ⟨h4 y h6, h7⟩
end
end Go.Proofs.Ytmlklmhochihbaa
/- The program's frames in memory. -/
namespace Go.Proofs.Ytmlklmhochihbaa
open Go.RowKit Go.Maps

/-- Whose a block is: bytes, or the frame of a key. -/
abbrev tByt : Tag := .row 0
def kn (k : Int) : Nat := match k with
  | .ofNat n => 2 * n + 1
  | .negSucc n => 2 * n + 2
abbrev tFr (k : Int) : Tag := .row (kn k)
theorem kn_inj {a b : Int} (h : kn a = kn b) : a = b := by
  unfold kn at h
  cases a with
  | ofNat a =>
    cases b with
    | ofNat b => simp only at h; rw [show a = b by omega]
    | negSucc b => simp only at h; omega
  | negSucc a =>
    cases b with
    | ofNat b => simp only at h; omega
    | negSucc b => simp only at h; rw [show a = b by omega]
theorem kn_pos (a : Int) : kn a ≠ 0 := by unfold kn; cases a <;> simp
theorem tFr_inj {a b : Int} (h : tFr a = tFr b) : a = b := kn_inj (by simpa using h)
theorem tFr_byt (a : Int) : tFr a ≠ tByt := fun h => kn_pos a (by simpa using h)
abbrev iv (k : Int) : Value := .int .i64 k
abbrev pinV (p : Int × Int) : Value := .agg #[.int .i64 p.1, .int .i64 p.2]
abbrev unitV : Value := .agg #[]
abbrev ptr (g : Nat) : Value := .pointer (some ⟨g, 0, none⟩)
theorem lo_progF : laidOutB Try.prog = true := by kernel_rfl
theorem keyPin : Keyed Try.prog 96 := Keyed.of_law (deep_law_laid lo_progF (m := 4) (by decide) (of_decide_eq_true (by kernel_rfl)) (by kernel_rfl) (by kernel_rfl))
theorem pinF : Try.prog.underlying 96 = some (.struct #[⟨ "task", 3, 0, false, "", "thimble/frames", 0⟩, ⟨ "key", 3, 1, false, "", "thimble/frames", 8⟩]) := by kernel_rfl
theorem wfI64 {K : Int} (h : i64 K) : (Lit.int .i64 K).wf = true := by
  have e1 : IntKind.i64.min = -9223372036854775808 := rfl
  have e2 : IntKind.i64.max = 9223372036854775807 := rfl
  simp only [Lit.wf, e1, e2, Bool.and_eq_true, decide_eq_true_eq]
  exact h
theorem keyOfPin {p : Int × Int} (h1 : i64 p.1) (h2 : i64 p.2) : ∃ l, keyOf Try.prog 96 (pinV p) = some l := by
  obtain ⟨m, hm⟩ : ∃ m, Try.prog.types.size = m + 2 := ⟨Try.prog.types.size - 2, by have : 2 ≤ Try.prog.types.size := of_decide_eq_true (by kernel_rfl); omega⟩
  have c1 : Try.prog.cellsOf 3 = 1 := by kernel_rfl
  have c2 : Try.prog.cellsOf 96 = 2 := by kernel_rfl
  have hf : Value.formed Try.prog 96 (pinV p) = true := by simp [Value.formed, c2]
  have hk : Try.prog.keyType 96 = true := by kernel_rfl
  have hi : ∀ K, i64 K → Try.prog.keyLits (m + 2) 3 [.int .i64 K] = some [.int .i64 K] := fun K hK => by
    unfold Program.keyLits
    simp only [Try.underlying3, wfI64 hK]
    simp
  have e1 : (([.int .i64 p.1, .int .i64 p.2] : List Value).drop 0).take 1 = [.int .i64 p.1] := rfl
  have e2 : (([.int .i64 p.1, .int .i64 p.2] : List Value).drop 1).take 1 = [.int .i64 p.2] := rfl
  have hs : Try.prog.keyLits (m + 3) 96 [.int .i64 p.1, .int .i64 p.2] = some [.int .i64 p.1, .int .i64 p.2] := by
    unfold Program.keyLits
    simp only [pinF, c2, List.mapM_cons, List.mapM_nil, c1, e1, e2, hi _ h1, hi _ h2]
    simp
  refine ⟨.string (keyBytes [.int .i64 p.1, .int .i64 p.2]), ?_⟩
  simp only [keyOf, pinF, hk, hf, Bool.and_self, if_true, hm]
  rw [show m + 2 + 1 = m + 3 by rfl]
  show Option.map _ (Try.prog.keyLits (m + 3) 96 [.int .i64 p.1, .int .i64 p.2]) = _
  rw [hs]; rfl
theorem pinV_inj {p q : Int × Int} (h : pinV p = pinV q) : p = q := by
  simp at h
  exact Prod.ext h.1 h.2
theorem iv_inj {a b : Int} (h : iv a = iv b) : a = b := by simpa using h
abbrev tcl (most : Nat) (left : Int) (gr gf gp gh : Nat) : List Value := [.int .i64 (most : Int), .int .i64 left, .map (some gr), .map (some gf), .map (some gp), ptr gh]
abbrev fcl (v : Value) (wr : Bool) (n : Nat) : List Value := [v, .bool wr, .int .i64 (n : Int)]
/-- The table at gt, its maps and frames; PL: the pins, each once. -/
structure Fm (w : World) (own : Owner) (gt gr gf gp gh gm : Nat) (fb : Int → Nat) (PL : List (Int × Int)) (s : St) : Prop where
  blk : Blk w gt 85 (tcl s.most s.left gr gf gp gh)
  res : MapOf 3 w gr (fun p : Int × Int => iv p.1) (fun p => iv p.2) s.sh
  frm : MapOf 3 w gf iv (fun k => ptr (fb k)) s.keys
  pin : MapOf 96 w gp pinV (fun _ => unitV) PL
  pnd : PL.Nodup
  pmem : ∀ x, x ∈ PL ↔ x ∈ s.pins
  each : ∀ e ∈ s.fr, ∃ v, Blk w (fb e.1) 89 (fcl v e.2.2 (cnt PL e.1)) ∧ Bf w (Is own tByt) v e.2.1
  ht : HtM w gh gm 16 s.now (look s.hl)
  ot : own gt = .dev
  ort : own gr = .sto
  ogf : own gf = .map
  ogp : own gp = .wri
  ogh : own gh = .imr
  ogm : own gm = .pic
  ofb : ∀ e ∈ s.fr, own (fb e.1) = tFr e.1
  ok : Sok s
  pl : s.pins.length ≤ 100000
  top : Top w own
/-- Blocks that the table writes into. -/
abbrev Wr (own : Owner) : Nat → Prop := fun b => own b ≠ .none ∧ own b ≠ tByt
def Ft (w : World) (own : Owner) (gt : Nat) (s : St) : Prop := ∃ gr gf gp gh gm fb PL, Fm w own gt gr gf gp gh gm fb PL s
structure FtTo (w : World) (own : Owner) (gt : Nat) (s : St) (w' : World) : Prop where
  ex : ∃ own', Ft w' own' gt s ∧ Ext own own' ∧ Fresh w own own'
  but : But (Wr own) w w'
section
variable {w w' : World} {own own' : Owner} {gt gr gf gp gh gm : Nat} {fb : Int → Nat} {PL : List (Int × Int)} {s s' : St} {R : Nat → Prop}
theorem Fm.but (h : Fm w own gt gr gf gp gh gm fb PL s) (k : But R w w') (hr : ∀ b, own b ≠ .none → ¬ R b) : Fm w' own gt gr gf gp gh gm fb PL s :=
  ⟨h.blk.but k (hr _ (by rw [h.ot]; decide)), h.res.but k (hr _ (by rw [h.ort]; decide)), h.frm.but k (hr _ (by rw [h.ogf]; decide)), h.pin.but k (hr _ (by rw [h.ogp]; decide)), h.pnd, h.pmem,
   fun e he => by
    obtain ⟨v, h1, h2⟩ := h.each e he
    exact ⟨v, h1.but k (hr _ (by rw [h.ofb e he]; exact fun e => nomatch e)), h2.but k (fun j hj => hr j (by rw [show own j = tByt from hj]; exact fun e => nomatch e))⟩,
   h.ht.but k (hr _ (by rw [h.ogh]; decide)) (hr _ (by rw [h.ogm]; decide)), h.ot, h.ort, h.ogf, h.ogp, h.ogh, h.ogm, h.ofb, h.ok, h.pl, h.top.grow k.size⟩
theorem Fm.grow (h : Fm w own gt gr gf gp gh gm fb PL s) (k : Grow w w') : Fm w' own gt gr gf gp gh gm fb PL s := h.but k (fun _ _ h => h)
theorem Ft.but (h : Ft w own gt s) (k : But R w w') (hr : ∀ b, own b ≠ .none → ¬ R b) : Ft w' own gt s := by
  obtain ⟨gr, gf, gp, gh, gm, fb, PL, h⟩ := h
  exact ⟨gr, gf, gp, gh, gm, fb, PL, h.but k hr⟩
theorem Ft.grow (h : Ft w own gt s) (k : Grow w w') : Ft w' own gt s := h.but k (fun _ _ h => h)
theorem Ft.ok (h : Ft w own gt s) : Sok s := by obtain ⟨gr, gf, gp, gh, gm, fb, PL, h⟩ := h; exact h.ok
theorem Ft.top (h : Ft w own gt s) : Top w own := by obtain ⟨gr, gf, gp, gh, gm, fb, PL, h⟩ := h; exact h.top
theorem Ft.now (h : Ft w own gt s) : s.now ≤ 1000000 := by obtain ⟨gr, gf, gp, gh, gm, fb, PL, h⟩ := h; exact h.ht.nw
theorem Ft.same (h : Ft w own gt s) (k : Grow w w') : FtTo w own gt s w' := ⟨⟨own, h.grow k, Ext.refl _, Fresh.refl _ _⟩, k.mono (fun _ _ h => h.elim)⟩
theorem FtTo.grow {w2 : World} (h : FtTo w own gt s w') (k : Grow w' w2) : FtTo w own gt s w2 := by
  obtain ⟨o, h1, h2, h3⟩ := h.ex
  exact ⟨⟨o, h1.grow k, h2, h3⟩, h.but.trans (k.mono (fun _ _ h => h.elim))⟩
theorem Fm.kd (h : Fm w own gt gr gf gp gh gm fb PL s) : (s.keys.map iv).Nodup := nodup_map (fun _ _ _ _ e => iv_inj e) h.ok.nd
theorem Fm.cl (h : Fm w own gt gr gf gp gh gm fb PL s) (k : Int) : cnt PL k ≤ 100000 :=
  Nat.le_trans (cnt_le _ _) (Nat.le_trans (nodup_len h.pnd (fun x hx => (h.pmem x).1 hx)) h.pl)
theorem Fm.pinned (h : Fm w own gt gr gf gp gh gm fb PL s) (k : Int) : decide (0 < cnt PL k) = s.pinned k := cnt_pos h.pmem k
/-- Of shares. -/
theorem Fm.shrd {sh : List (Int × Int)} (h : Fm w own gt gr gf gp gh gm fb PL s) (k : But (fun b => b = gr ∨ b = gt) w w') (hok : Sok { s with sh := sh })
    (hb : Blk w' gt 85 (tcl s.most ({ s with sh := sh } : St).left gr gf gp gh)) (hr : MapOf 3 w' gr (fun p : Int × Int => iv p.1) (fun p => iv p.2) sh) : Fm w' own gt gr gf gp gh gm fb PL { s with sh := sh } := by
  have ne : ∀ b t, own b = t → t ≠ .dev → t ≠ .sto → ¬ (b = gr ∨ b = gt) := fun b t e h1 h2 e2 => by
    rcases e2 with e2 | e2
    · rw [e2, h.ort] at e; exact h2 e.symm
    · rw [e2, h.ot] at e; exact h1 e.symm
  exact ⟨hb, hr, h.frm.but k (ne _ _ h.ogf (by decide) (by decide)), h.pin.but k (ne _ _ h.ogp (by decide) (by decide)), h.pnd, h.pmem,
    fun e he => by
      obtain ⟨v, h1, h2⟩ := h.each e he
      exact ⟨v, h1.but k (ne _ _ (h.ofb e he) (fun e => nomatch e) (fun e => nomatch e)), h2.but k (fun j hj => ne _ _ hj (fun e => nomatch e) (fun e => nomatch e))⟩,
    h.ht.but k (ne _ _ h.ogh (by decide) (by decide)) (ne _ _ h.ogm (by decide) (by decide)), h.ot, h.ort, h.ogf, h.ogp, h.ogh, h.ogm, h.ofb, hok, h.pl, h.top.grow k.size⟩
/-- Of heats. -/
theorem Fm.heatd {n : Nat} {hl : List Sp} (h : Fm w own gt gr gf gp gh gm fb PL s) (k : HtTo w gh gm 16 n (look hl) w') : Fm w' own gt gr gf gp gh gm fb PL { s with now := n, hl := hl } := by
  have ne : ∀ b t, own b = t → t ≠ .imr → t ≠ .pic → ¬ (b = gh ∨ b = gm) := fun b t e h1 h2 e2 => by
    rcases e2 with e2 | e2
    · rw [e2, h.ogh] at e; exact h1 e.symm
    · rw [e2, h.ogm] at e; exact h2 e.symm
  exact ⟨h.blk.but k.but (ne _ _ h.ot (by decide) (by decide)), h.res.but k.but (ne _ _ h.ort (by decide) (by decide)), h.frm.but k.but (ne _ _ h.ogf (by decide) (by decide)), h.pin.but k.but (ne _ _ h.ogp (by decide) (by decide)), h.pnd, h.pmem,
    fun e he => by
      obtain ⟨v, h1, h2⟩ := h.each e he
      exact ⟨v, h1.but k.but (ne _ _ (h.ofb e he) (fun e => nomatch e) (fun e => nomatch e)), h2.but k.but (fun j hj => ne _ _ hj (fun e => nomatch e) (fun e => nomatch e))⟩,
    k.ht, h.ot, h.ort, h.ogf, h.ogp, h.ogh, h.ogm, h.ofb, ⟨h.ok.m1, h.ok.m2, h.ok.nd, h.ok.le, h.ok.ik, h.ok.pk, h.ok.tn, h.ok.sk, h.ok.sl⟩, h.pl, h.top.grow k.but.size⟩
theorem Fm.fbne (h : Fm w own gt gr gf gp gh gm fb PL s) {e : FrE} (he : e ∈ s.fr) {b : Nat} {t : Tag} (hb : own b = t) (ht : t ≠ tFr e.1) : ¬ (b = fb e.1) := fun e2 => by
  rw [e2, h.ofb e he] at hb; exact ht hb.symm
/-- One frame has other bytes, another mark. -/
theorem Fm.store (h : Fm w own gt gr gf gp gh gm fb PL s) {e0 : FrE} (he0 : e0 ∈ s.fr) {v : Value} {b : List Nat} {wr : Bool} (hx : Ext own own') (htop : Top w' own') (k : But (· = fb e0.1) w w') (hl : b.length ≤ 1000000)
    (hb : Blk w' (fb e0.1) 89 (fcl v wr (cnt PL e0.1))) (hv : Bf w' (Is own' tByt) v b) : Fm w' own' gt gr gf gp gh gm fb PL { s with fr := s.fr.map (fun e => if e.1 == e0.1 then (e.1, b, wr) else e) } := by
  have hk : (s.fr.map (fun e : FrE => if e.1 == e0.1 then (e.1, b, wr) else e)).map (·.1) = s.fr.map (·.1) := by
    rw [List.map_map]
    apply List.map_congr_left
    intro e _
    simp only [Function.comp]
    split <;> rfl
  have hh : ∀ j, St.has { s with fr := s.fr.map (fun e => if e.1 == e0.1 then (e.1, b, wr) else e) } j = s.has j := fun j => by
    rw [Bool.eq_iff_iff]
    unfold St.has
    rw [hasK_keys, hasK_keys, hk]
  have hke : ({ s with fr := s.fr.map (fun e => if e.1 == e0.1 then (e.1, b, wr) else e) } : St).keys = s.keys := hk
  have tg : ∀ {g : Nat} {t : Tag}, own g = t → t ≠ .none → own' g = t := fun {g t} h1 h2 => (hx g (by rw [h1]; exact h2)).trans h1
  refine ⟨h.blk.but k (h.fbne he0 h.ot (fun e => nomatch e)), h.res.but k (h.fbne he0 h.ort (fun e => nomatch e)), ?_, h.pin.but k (h.fbne he0 h.ogp (fun e => nomatch e)), h.pnd, h.pmem, fun e he => ?_,
    h.ht.but k (h.fbne he0 h.ogh (fun e => nomatch e)) (h.fbne he0 h.ogm (fun e => nomatch e)), tg h.ot (by decide), tg h.ort (by decide), tg h.ogf (by decide), tg h.ogp (by decide), tg h.ogh (by decide), tg h.ogm (by decide), fun e he => ?_,
    ⟨h.ok.m1, h.ok.m2, by show (List.map _ (List.map _ _)).Nodup; rw [hk]; exact h.ok.nd, by show (List.map _ _).length ≤ _; rw [List.length_map]; exact h.ok.le, fun e he => ?_, fun p hp => ?_, h.ok.tn, h.ok.sk, h.ok.sl⟩, h.pl, htop⟩
  · rw [hke]; exact h.frm.but k (h.fbne he0 h.ogf (fun e => nomatch e))
  · obtain ⟨x, hxm, rfl⟩ := List.mem_map.1 he
    by_cases hxk : x.1 = e0.1
    · have hq : (x.1 == e0.1) = true := by simpa using hxk
      simp only [hq, if_true]
      rw [hxk]
      exact ⟨v, hb, hv⟩
    · have hq : (x.1 == e0.1) = false := by simpa using hxk
      simp only [hq]
      obtain ⟨u, h1, h2⟩ := h.each x hxm
      refine ⟨u, h1.but k (h.fbne he0 (h.ofb x hxm) (fun e => hxk (tFr_inj e))), ?_⟩
      have h3 := h2.but k (fun j hj => h.fbne he0 hj (fun e => tFr_byt _ e.symm))
      exact ⟨h3.1, fun h0 j hj => tg (h3.2 h0 j hj) (fun e => nomatch e)⟩
  · obtain ⟨x, hxm, rfl⟩ := List.mem_map.1 he
    by_cases hxk : (x.1 == e0.1) = true
    · simp only [hxk, if_true]; exact tg (h.ofb x hxm) (fun e => nomatch e)
    · simp only [hxk]; exact tg (h.ofb x hxm) (fun e => nomatch e)
  · obtain ⟨x, hxm, rfl⟩ := List.mem_map.1 he
    have := h.ok.ik x hxm
    by_cases hxk : (x.1 == e0.1) = true
    · simp only [hxk, if_true]; exact ⟨this.1, hl⟩
    · simp only [hxk]; exact this
  · rw [hh]; exact h.ok.pk p hp
end
end Go.Proofs.Ytmlklmhochihbaa
/- General: own rows that are stored into, or cut short. -/
namespace Go.Proofs.Ytmlklmhochihbaa
open Go.RowKit

section
variable {w : World} {g : Nat}
theorem RowOf.blk {Fr : Nat → Prop} {e s n cap : Nat} {L : List Value} (h : RowOf w Fr e s (.slice (some ⟨g, 0, none⟩) n cap) n L) : ∃ M, Blk w g e M ∧ L.length ≤ M.length := by
  obtain ⟨hl, ⟨h1, _⟩ | ⟨g', cap', cur, e, hge, hb, h1, h2, h3, h4⟩⟩ := h.own
  · rcases h1 with h1 | h1 <;> simp at h1
  · simp only [Value.slice.injEq, Option.some.injEq, Addr.mk.injEq, and_true] at e
    obtain ⟨rfl, -, rfl⟩ := e
    refine ⟨cur.toList, hb, ?_⟩
    rw [hl, Array.length_toList, h3]
    exact Nat.mul_le_mul_right _ h1
theorem RowOf.set {Fr : Nat → Prop} {e s n cap : Nat} {L : List Value} (h : RowOf w Fr e s (.slice (some ⟨g, 0, none⟩) n cap) n L) (i : Nat) (u : Value) : RowOf (w.setCell ⟨g, i, none⟩ u) Fr e s (.slice (some ⟨g, 0, none⟩) n cap) n (L.set i u) := by
  obtain ⟨hl, ⟨h1, _⟩ | ⟨g', cap', cur, e, hge, hb, h1, h2, h3, h4⟩⟩ := h.own
  · rcases h1 with h1 | h1 <;> simp at h1
  · simp only [Value.slice.injEq, Option.some.injEq, Addr.mk.injEq, and_true] at e
    obtain ⟨rfl, -, rfl⟩ := e
    have hb' : Blk w g e cur.toList := hb
    have h5 := hb'.set i u
    refine ⟨⟨by rw [List.length_set]; exact hl, .inr ⟨g, cap, (cur.toList.set i u).toArray, rfl, hge, h5, h1, h2, by simpa using h3, ?_⟩⟩, h.inF⟩
    show (cur.toList.set i u).take _ = _
    rw [List.take_set, h4]
/-- Cut short. -/
theorem RowOf.take {Fr : Nat → Prop} {e s n cap m : Nat} {L : List Value} (h : RowOf w Fr e s (.slice (some ⟨g, 0, none⟩) n cap) n L) (hm : m ≤ n) : RowOf w Fr e s (.slice (some ⟨g, 0, none⟩) m cap) m (L.take (m * s)) := by
  obtain ⟨hl, ⟨h1, _⟩ | ⟨g', cap', cur, e, hge, hb, h1, h2, h3, h4⟩⟩ := h.own
  · rcases h1 with h1 | h1 <;> simp at h1
  · simp only [Value.slice.injEq, Option.some.injEq, Addr.mk.injEq, and_true] at e
    obtain ⟨rfl, -, rfl⟩ := e
    have hms : m * s ≤ n * s := Nat.mul_le_mul_right _ hm
    refine ⟨⟨by rw [List.length_take, hl]; omega, .inr ⟨g, cap, cur, rfl, hge, hb, by omega, h2, h3, ?_⟩⟩, h.inF⟩
    rw [← h4, List.take_take, Nat.min_eq_left hms]
theorem RowOf.cap {Fr : Nat → Prop} {e s n cap : Nat} {L : List Value} (h : RowOf w Fr e s (.slice (some ⟨g, 0, none⟩) n cap) n L) : n ≤ cap ∧ cap ≤ maxLen := by
  obtain ⟨hl, ⟨h1, _⟩ | ⟨g', cap', cur, e, hge, hb, h1, h2, h3, h4⟩⟩ := h.own
  · rcases h1 with h1 | h1 <;> simp at h1
  · simp only [Value.slice.injEq, Option.some.injEq, Addr.mk.injEq, and_true] at e
    obtain ⟨rfl, -, rfl⟩ := e
    exact ⟨h1, h2⟩
end
/-- A cell of a row's element. -/
theorem RowOf.cellAt {α : Type} {f : α → List Value} {L : List α} {w : World} {Fr : Nat → Prop} {e s : Nat} {v : Value} (h : RowOf w Fr e s v L.length (L.flatMap f)) (hs : ∀ x ∈ L, (f x).length = s) {i : Nat} {x : α} (hi : L[i]? = some x) :
    ∃ g cap, v = .slice (some ⟨g, 0, none⟩) L.length cap ∧ Fr g ∧ ∀ c u, (f x)[c]? = some u → w.cell? ⟨g, i * s + c, none⟩ = some u := by
  obtain ⟨ao, cap, e1, h2⟩ := h.shape
  have hl : i < L.length := (List.getElem?_eq_some_iff.1 hi).1
  obtain ⟨g, rfl, h3, -, h5⟩ := h2 (by omega)
  exact ⟨g, cap, e1, h3, fun c u hu => h5 _ _ (flat_at L hs i x c u hi hu)⟩
theorem flat_len' {α : Type} {f : α → List Value} {s : Nat} : ∀ (L : List α), (∀ x ∈ L, (f x).length = s) → (L.flatMap f).length = L.length * s
  | [], _ => by simp
  | x :: L, h => by
    rw [List.flatMap_cons, List.length_append, h x List.mem_cons_self, flat_len' L (fun y hy => h y (List.mem_cons_of_mem _ hy)), List.length_cons, Nat.add_mul]; omega
theorem flat_setc {α : Type} {f : α → List Value} {s : Nat} {u : Value} {y : α} : ∀ (L : List α) (i c : Nat) (x : α), (∀ x ∈ L, (f x).length = s) → L[i]? = some x → c < s → f y = (f x).set c u → (L.flatMap f).set (i * s + c) u = (L.set i y).flatMap f
  | [], i, c, x, _, h, _, _ => by simp at h
  | z :: L, i, c, x, hl, h, hc, hy => by
    have hz := hl z List.mem_cons_self
    cases i with
    | zero =>
      obtain rfl : z = x := by simpa using h
      rw [List.flatMap_cons, List.set_cons_zero, List.flatMap_cons, Nat.zero_mul, Nat.zero_add, List.set_append_left _ _ (by omega), hy]
    | succ i =>
      have h' : L[i]? = some x := by simpa using h
      rw [List.flatMap_cons, List.set_cons_succ, List.flatMap_cons, List.set_append_right _ _ (by rw [hz, Nat.add_mul]; omega), hz, show (i + 1) * s + c - s = i * s + c by rw [Nat.add_mul]; omega,
        flat_setc L i c x (fun w hw => hl w (List.mem_cons_of_mem _ hw)) h' hc hy]
/-- A cell of a row's element is stored into. -/
theorem RowOf.setAt {α : Type} {f : α → List Value} {L : List α} {w : World} {Fr : Nat → Prop} {e s g cap i c : Nat} {u : Value} {x y : α} (h : RowOf w Fr e s (.slice (some ⟨g, 0, none⟩) L.length cap) L.length (L.flatMap f)) (hs : ∀ x ∈ L, (f x).length = s) (hi : L[i]? = some x) (hc : c < s) (hy : f y = (f x).set c u) :
    RowOf (w.setCell ⟨g, i * s + c, none⟩ u) Fr e s (.slice (some ⟨g, 0, none⟩) (L.set i y).length cap) (L.set i y).length ((L.set i y).flatMap f) := by
  have h1 := h.set (i * s + c) u
  rw [flat_setc L i c x hs hi hc hy] at h1
  rw [List.length_set]
  exact h1
/-- Where a row's element can be stored into. -/
theorem RowOf.spot {α : Type} {f : α → List Value} {L : List α} {w : World} {Fr : Nat → Prop} {e s g cap i c : Nat} {x : α} (h : RowOf w Fr e s (.slice (some ⟨g, 0, none⟩) L.length cap) L.length (L.flatMap f)) (hs : ∀ x ∈ L, (f x).length = s) (hi : L[i]? = some x) (hc : c < s) :
    (∃ u, w.cell? ⟨g, i * s + c, none⟩ = some u) ∧ w.frozen? ⟨g, i * s + c, none⟩ = false := by
  obtain ⟨M, hM, hl⟩ := h.blk
  have hil : i < L.length := (List.getElem?_eq_some_iff.1 hi).1
  rw [flat_len' L hs] at hl
  have h1 : i * s + c < M.length := by
    have : (i + 1) * s ≤ L.length * s := Nat.mul_le_mul_right _ (by omega)
    rw [Nat.add_mul] at this
    omega
  exact ⟨⟨_, by rw [hM.cell]; exact List.getElem?_eq_getElem h1⟩, hM.free _⟩
theorem own_sl {w : World} {base e s n : Nat} {v : Value} {xs : List Value} (h : w.ownsRow base e s v n xs) : ∃ a c, v = .slice a n c := by
  obtain ⟨-, ⟨rfl, rfl⟩ | ⟨g', c', cu, rfl, -⟩⟩ := h
  · exact ⟨none, 0, rfl⟩
  · exact ⟨_, _, rfl⟩
/-- The last one is put at a place, and the row cut short. -/
def rem {α : Type} (Z : List α) (a : Nat) (x : α) : List α := (Z.set a x).take (Z.length - 1)
theorem rem_perm {α : Type} {Z : List α} {a : Nat} {y x : α} (ha : Z[a]? = some y) (hx : Z[Z.length - 1]? = some x) : Z.Perm (y :: rem Z a x) := by
  have hl : a < Z.length := (List.getElem?_eq_some_iff.1 ha).1
  have h0 : Z ≠ [] := fun e => by rw [e] at hl; simp at hl
  obtain ⟨Y, z, rfl⟩ : ∃ Y z, Z = Y ++ [z] := ⟨Z.dropLast, Z.getLast h0, (List.dropLast_concat_getLast h0).symm⟩
  rw [List.length_append, List.length_singleton] at hx hl
  rw [show Y.length + 1 - 1 = Y.length by omega, List.getElem?_append_right (Nat.le_refl _), Nat.sub_self] at hx
  obtain rfl : z = x := by simpa using hx
  unfold rem
  rw [List.length_append, List.length_singleton, show Y.length + 1 - 1 = Y.length by omega]
  by_cases h1 : a < Y.length
  · rw [List.set_append_left _ _ h1, List.take_left' (by rw [List.length_set])]
    rw [List.getElem?_append_left h1] at ha
    have e1 : Y = Y.take a ++ y :: Y.drop (a + 1) := by
      have h3 := List.getElem?_eq_some_iff.1 ha
      rw [← h3.2, List.getElem_cons_drop, List.take_append_drop]
    have e2 : Y.set a z = Y.take a ++ z :: Y.drop (a + 1) := by rw [List.set_eq_take_append_cons_drop, if_pos h1]
    rw [e2]
    conv => lhs; rw [e1]
    refine (List.perm_append_comm (l₁ := Y.take a ++ y :: Y.drop (a + 1)) (l₂ := [z])).trans ?_
    refine (List.Perm.cons z List.perm_middle).trans ?_
    exact (List.Perm.swap y z _).trans (List.Perm.cons y List.perm_middle.symm)
  · have h2 : a = Y.length := by omega
    subst h2
    rw [List.getElem?_append_right (Nat.le_refl _), Nat.sub_self] at ha
    obtain rfl : z = y := by simpa using ha
    rw [List.set_append_right _ _ (Nat.le_refl _), Nat.sub_self, List.take_left' rfl]
    exact List.perm_append_comm
theorem rem_len {α : Type} {Z : List α} {a : Nat} {x : α} : (rem Z a x).length = Z.length - 1 := by unfold rem; rw [List.length_take, List.length_set]; omega
theorem rem_map {α β : Type} (f : α → β) (Z : List α) (a : Nat) (x : α) : (rem Z a x).map f = rem (Z.map f) a (f x) := by unfold rem; rw [List.map_take, List.map_set, List.length_map]
theorem rem_mem {α : Type} {Z : List α} {a : Nat} {x z : α} (hx : x ∈ Z) (h : z ∈ rem Z a x) : z ∈ Z := by
  unfold rem at h
  rcases List.mem_or_eq_of_mem_set (List.mem_of_mem_take h) with h | h
  · exact h
  · rw [h]; exact hx
end Go.Proofs.Ytmlklmhochihbaa
/- The reference's frames in memory: At, Left, Pinned. -/
namespace Go.Proofs.Ytmlklmhochihbaa
open Go.RowKit

abbrev FrV := FrE × Value
def fxc (e : FrV) : List Value := [.int .i64 e.1.1, e.2, .bool e.1.2.2]
def twc (p : Int × Int) : List Value := [.int .i64 p.1, .int .i64 p.2]
theorem fxc_len (e : FrV) : (fxc e).length = 3 := rfl
theorem twc_len (e : Int × Int) : (twc e).length = 2 := rfl
structure RxM (w : World) (ro : Owner) (gx : Nat) (vl vp vs vh : Value) (FL : List FrV) (s : St) : Prop where
  ht : FhM w gx (.int .i64 (s.most : Int)) vl vp vs vh 16 s.now s.hl
  rl : RowOf w (Is ro .sto) 65 3 vl FL.length (FL.flatMap fxc)
  fl : FL.map (·.1) = s.fr
  bt : ∀ e ∈ FL, Bf w (Is ro tByt) e.2 e.1.2.1
  rp : RowOf w (Is ro .map) 74 2 vp s.pins.length (s.pins.flatMap twc)
  rs : RowOf w (Is ro .wri) 74 2 vs s.sh.length (s.sh.flatMap twc)
  oh : ∀ k, vh.ownBlock = some k → ro k = .imr
  ox : ro gx = .dev
  ok : Sok s
  pl : s.pins.length ≤ 100000
  top : Top w ro
def Rx (w : World) (ro : Owner) (gx : Nat) (s : St) : Prop := ∃ vl vp vs vh FL, RxM w ro gx vl vp vs vh FL s
/-- What a call leaves. -/
structure RxTo (w : World) (ro : Owner) (gx : Nat) (s : St) (w' : World) : Prop where
  ex : ∃ ro', Rx w' ro' gx s ∧ Fresh w ro ro'
  but : But (fun b => ro b ≠ .none ∧ ro b ≠ tByt) w w'
section
variable {w w' : World} {ro ro' : Owner} {gx : Nat} {vl vp vs vh : Value} {FL : List FrV} {s s' : St} {R : Nat → Prop}
theorem RxM.but (h : RxM w ro gx vl vp vs vh FL s) (k : But R w w') (hr : ∀ b, ro b ≠ .none → ¬ R b) : RxM w' ro gx vl vp vs vh FL s := by
  have ne : ∀ b t, ro b = t → t ≠ .none → ¬ R b := fun b t e ht => hr b (by rw [e]; exact ht)
  exact ⟨h.ht.but k (ne _ _ h.ox (by decide)) (fun j hj => ne _ _ (h.oh j hj) (by decide)), h.rl.but k (fun j hj => ne _ _ hj (by decide)) (fun _ h => h), h.fl, fun e he => (h.bt e he).but k (fun j hj => ne _ _ hj (fun e => nomatch e)),
    h.rp.but k (fun j hj => ne _ _ hj (by decide)) (fun _ h => h), h.rs.but k (fun j hj => ne _ _ hj (by decide)) (fun _ h => h), h.oh, h.ox, h.ok, h.pl, h.top.grow k.size⟩
theorem RxM.grow (h : RxM w ro gx vl vp vs vh FL s) (k : Grow w w') : RxM w' ro gx vl vp vs vh FL s := h.but k (fun _ _ h => h)
theorem Rx.but (h : Rx w ro gx s) (k : But R w w') (hr : ∀ b, ro b ≠ .none → ¬ R b) : Rx w' ro gx s := by
  obtain ⟨vl, vp, vs, vh, FL, h⟩ := h
  exact ⟨vl, vp, vs, vh, FL, h.but k hr⟩
theorem Rx.grow (h : Rx w ro gx s) (k : Grow w w') : Rx w' ro gx s := h.but k (fun _ _ h => h)
theorem Rx.ok (h : Rx w ro gx s) : Sok s := by obtain ⟨vl, vp, vs, vh, FL, h⟩ := h; exact h.ok
theorem Rx.top (h : Rx w ro gx s) : Top w ro := by obtain ⟨vl, vp, vs, vh, FL, h⟩ := h; exact h.top
theorem Rx.same (h : Rx w ro gx s) (k : Grow w w') : RxTo w ro gx s w' := ⟨⟨ro, h.grow k, Fresh.refl _ _⟩, k.mono (fun _ _ h => h.elim)⟩
theorem RxTo.grow {w2 : World} (h : RxTo w ro gx s w') (k : Grow w' w2) : RxTo w ro gx s w2 := by
  obtain ⟨o, h1, h2⟩ := h.ex
  exact ⟨⟨o, h1.grow k, h2⟩, h.but.trans (k.mono (fun _ _ h => h.elim))⟩
theorem RxM.lenL (h : RxM w ro gx vl vp vs vh FL s) : FL.length = s.fr.length := by rw [← h.fl, List.length_map]
theorem RxM.small (h : RxM w ro gx vl vp vs vh FL s) : FL.length ≤ 1024 ∧ s.sh.length ≤ 1024 := by
  have h1 := h.ok.le
  have h2 := h.ok.m2
  refine ⟨by rw [h.lenL]; omega, ?_⟩
  have h3 := h.ok.sl
  have h4 : ∀ l : List (Int × Int), (∀ p ∈ l, 1 ≤ p.2) → (l.length : Int) ≤ sums l := fun l => by
    induction l with
    | nil => intro _; rw [sums_nil]; simp
    | cons p l ih =>
      intro hp
      rw [sums_cons, List.length_cons]
      have := ih (fun q hq => hp q (List.mem_cons_of_mem _ hq))
      have := hp p List.mem_cons_self
      omega
  have := h4 s.sh (fun p hp => (h.ok.sk p hp).2)
  omega
set_option maxRecDepth 100000 in
set_option maxHeartbeats 1000000 in
theorem rxat_any (h : Rx w ro gx s) (K : Int) : Calls Try.prog 30 #[ptr gx, .int .i64 K] w fun e w' => w' = w ∧ ((∃ (i : Nat) (e0 : FrE), s.fr[i]? = some e0 ∧ e0.1 = K ∧ e = .returned (.int .i64 i)) ∨ (s.has K = false ∧ e = .returned (.int .i64 (-1)))) := by
  obtain ⟨vl, vp, vs, vh, FL, h⟩ := h
  have HH := Hid.mk' h
  obtain ⟨n, hn⟩ : ∃ n, n = FL.length := ⟨_, rfl⟩
  obtain ⟨ao, cap, e, -⟩ := h.rl.shape
  rw [← hn] at e
  subst e
  have c1 : w.cell? ⟨gx, 1, none⟩ = some (.slice ao n cap) := h.ht.blk.cell 1
  have hnb : (n : Int) ≤ 1024 := by have := h.small.1; omega
  have HN := Hid.mk' hn
  clear h hn
  go_enter Try.func30, Try.ntmps30
  go_wp2
  go_loopw [5] (fun iv wr => ∃ i : Nat, i ≤ n ∧ iv = .int .i64 i ∧ (∀ j e, j < i → FL[j]? = some e → e.1.1 ≠ K) ∧ wr = w) (fun iv _ => n - (intOf iv).toNat)
  case atStart => exact ⟨0, Nat.zero_le _, rfl, fun j e hj => absurd hj (by omega), rfl⟩
  case round =>
    obtain ⟨i, hin, rfl, hne, rfl⟩ := hrel
    have HNE := Hid.mk' hne
    clear hne
    by_cases hlt : i < n
    · have hlti : (i : Int) < (n : Int) := by omega
      obtain ⟨⟨⟨q, qb, qw⟩, qv⟩, hq⟩ : ∃ e, FL[i]? = some e := ⟨_, List.getElem?_eq_getElem (by have := HN.out; omega)⟩
      obtain ⟨g, cp, e1, -, hcell⟩ := HH.out.rl.cellAt (fun e _ => fxc_len e) hq
      simp only [Value.slice.injEq] at e1
      obtain ⟨rfl, -, rfl⟩ := e1
      have c3 : wr.cell? ⟨g, i * 3, none⟩ = some (.int .i64 q) := hcell 0 _ rfl
      have HQ := Hid.mk' hq
      have HFR : Hid (s.fr[i]? = some (q, qb, qw)) := by show _ = _; rw [← HH.out.fl, List.getElem?_map, hq]; rfl
      clear hcell hq
      by_cases hk : q = K
      · have hkb : (q == K) = true := by simpa using hk
        have HK := Hid.mk' hk
        clear hk
        go_wp2
        go_ret
        exact ⟨rfl, .inl ⟨i, _, HFR.out, HK.out, rfl⟩⟩
      · have hkb : (q == K) = false := by simpa using hk
        have HST : Hid (∀ j e, j < i + 1 → FL[j]? = some e → e.1.1 ≠ K) := fun j e hj he => by
          by_cases e2 : j = i
          · subst e2
            rw [HQ.out] at he
            cases he
            exact hk
          · exact HNE.out j e (by omega) he
        clear hk
        go_wp2
        exact ⟨⟨i + 1, by omega, by go_num, HST.out, (by first | rfl | trivial)⟩, by simp [intOf]; omega⟩
    · have hlti : ¬ ((i : Int) < (n : Int)) := by omega
      have HNO : Hid (s.has K = false) := St.has_not.2 (fun e he => by
        rw [← HH.out.fl] at he
        obtain ⟨x, hx, rfl⟩ := List.mem_map.1 he
        obtain ⟨j, hj⟩ := List.getElem?_of_mem hx
        have := (List.getElem?_eq_some_iff.1 hj).1
        exact HNE.out j x (by have := HN.out; omega) hj)
      go_wp2
      go_ret
      exact ⟨rfl, .inr ⟨HNO.out, rfl⟩⟩
set_option maxRecDepth 100000 in
set_option maxHeartbeats 1000000 in
theorem rxpinned_any (h : Rx w ro gx s) (K : Int) : Calls Try.prog 42 #[ptr gx, .int .i64 K] w fun e w' => e = .returned (.bool (s.pinned K)) ∧ w' = w := by
  obtain ⟨vl, vp, vs, vh, FL, h⟩ := h
  have HH := Hid.mk' h
  obtain ⟨n, hn⟩ : ∃ n, n = s.pins.length := ⟨_, rfl⟩
  obtain ⟨ao, cap, e, -⟩ := h.rp.shape
  rw [← hn] at e
  subst e
  have c1 : w.cell? ⟨gx, 2, none⟩ = some (.slice ao n cap) := h.ht.blk.cell 2
  have hnb : (n : Int) ≤ 100000 := by have := h.pl; omega
  have HN := Hid.mk' hn
  obtain ⟨pk, hpk⟩ : ∃ pk, pk = s.pinned K := ⟨_, rfl⟩
  rw [← hpk]
  have HPK := Hid.mk' hpk
  clear h hn hpk
  go_enter Try.func42, Try.ntmps42
  go_wp2
  go_loopw [5] (fun iv wr => ∃ i : Nat, i ≤ n ∧ iv = .int .i64 i ∧ (∀ j e, j < i → s.pins[j]? = some e → e.2 ≠ K) ∧ wr = w) (fun iv _ => n - (intOf iv).toNat)
  case atStart => exact ⟨0, Nat.zero_le _, rfl, fun j e hj => absurd hj (by omega), rfl⟩
  case round =>
    obtain ⟨i, hin, rfl, hne, rfl⟩ := hrel
    have HNE := Hid.mk' hne
    clear hne
    by_cases hlt : i < n
    · have hlti : (i : Int) < (n : Int) := by omega
      obtain ⟨⟨qt, q⟩, hq⟩ : ∃ e, s.pins[i]? = some e := ⟨_, List.getElem?_eq_getElem (by have := HN.out; omega)⟩
      obtain ⟨g, cp, e1, -, hcell⟩ := HH.out.rp.cellAt (fun e _ => twc_len e) hq
      simp only [Value.slice.injEq] at e1
      obtain ⟨rfl, -, rfl⟩ := e1
      have c3 : wr.cell? ⟨g, i * 2 + 1, none⟩ = some (.int .i64 q) := hcell 1 _ rfl
      have HQ := Hid.mk' hq
      clear hcell hq
      by_cases hk : q = K
      · have hkb : (q == K) = true := by simpa using hk
        have HP : Hid (s.pinned K = true) := by show _ = _; unfold St.pinned; rw [List.any_eq_true]; exact ⟨_, List.mem_of_getElem? HQ.out, by simpa using hk⟩
        clear hk
        go_wp2
        go_ret
        exact ⟨congrArg (fun b => Ending.returned (.bool b)) (HPK.out.trans HP.out).symm, rfl⟩
      · have hkb : (q == K) = false := by simpa using hk
        have HST : Hid (∀ j e, j < i + 1 → s.pins[j]? = some e → e.2 ≠ K) := fun j e hj he => by
          by_cases e2 : j = i
          · subst e2
            rw [HQ.out] at he
            cases he
            exact hk
          · exact HNE.out j e (by omega) he
        clear hk
        go_wp2
        exact ⟨⟨i + 1, by omega, by go_num, HST.out, (by first | rfl | trivial)⟩, by simp [intOf]; omega⟩
    · have hlti : ¬ ((i : Int) < (n : Int)) := by omega
      have HNO : Hid (s.pinned K = false) := by
        show _ = _
        unfold St.pinned
        rw [List.any_eq_false]
        intro x hx
        obtain ⟨j, hj⟩ := List.getElem?_of_mem hx
        have := (List.getElem?_eq_some_iff.1 hj).1
        have := HNE.out j x (by have := HN.out; omega) hj
        simpa using this
      go_wp2
      go_ret
      exact ⟨congrArg (fun b => Ending.returned (.bool b)) (HPK.out.trans HNO.out).symm, rfl⟩
theorem sums_take {l : List (Int × Int)} {i : Nat} {p : Int × Int} (h : l[i]? = some p) : sums (l.take (i + 1)) = sums (l.take i) + p.2 := by
  have hi := List.getElem?_eq_some_iff.1 h
  rw [List.take_succ_eq_append_getElem hi.1, sums_append, sums_cons, sums_nil, hi.2]; omega
theorem sums_bound {l : List (Int × Int)} (h : ∀ p ∈ l, 1 ≤ p.2) (i : Nat) : 0 ≤ sums (l.take i) ∧ sums (l.take i) ≤ sums l := by
  have h1 : sums l = sums (l.take i) + sums (l.drop i) := by rw [← sums_append, List.take_append_drop]
  have h2 := sums_nonneg (l := l.take i) (fun p hp => h p (List.mem_of_mem_take hp))
  have h3 := sums_nonneg (l := l.drop i) (fun p hp => h p (List.mem_of_mem_drop hp))
  omega
set_option maxRecDepth 100000 in
set_option maxHeartbeats 1000000 in
theorem rxleft_any (h : Rx w ro gx s) : Calls Try.prog 39 #[ptr gx] w fun e w' => e = .returned (.int .i64 s.left) ∧ w' = w := by
  obtain ⟨vl, vp, vs, vh, FL, h⟩ := h
  have HH := Hid.mk' h
  obtain ⟨n, hn⟩ : ∃ n, n = s.sh.length := ⟨_, rfl⟩
  obtain ⟨ao, cap, e, -⟩ := h.rs.shape
  rw [← hn] at e
  subst e
  obtain ⟨M, hM⟩ : ∃ M, M = s.most := ⟨_, rfl⟩
  have c0 : w.cell? ⟨gx, 0, none⟩ = some (.int .i64 (M : Int)) := by rw [hM]; exact h.ht.blk.cell 0
  have c1 : w.cell? ⟨gx, 3, none⟩ = some (.slice ao n cap) := h.ht.blk.cell 3
  have hnb : (n : Int) ≤ 1024 := by have := h.small.2; omega
  have HN := Hid.mk' hn
  have HM : Hid (M = s.most ∧ (M : Int) ≤ 1024 ∧ sums s.sh ≤ (M : Int)) := by have := h.ok.m2; have := h.ok.sl; show _ ∧ _ ∧ _; omega
  obtain ⟨LF, hLF⟩ : ∃ LF, LF = s.left := ⟨_, rfl⟩
  rw [← hLF]
  have HLF := Hid.mk' hLF
  clear h hn hM hLF
  go_enter Try.func39, Try.ntmps39
  go_wp2
  go_loopw [3, 4] (fun nv iv wr => ∃ i : Nat, i ≤ n ∧ iv = .int .i64 i ∧ nv = .int .i64 ((M : Int) - sums (s.sh.take i)) ∧ wr = w) (fun _ iv _ => n - (intOf iv).toNat)
  case atStart => exact ⟨0, Nat.zero_le _, rfl, by rw [List.take_zero, sums_nil, Int.sub_zero], rfl⟩
  case round =>
    obtain ⟨i, hin, rfl, rfl, rfl⟩ := hrel
    have HB := Hid.mk' (sums_bound (fun p hp => (HH.out.ok.sk p hp).2) i)
    by_cases hlt : i < n
    · have hlti : (i : Int) < (n : Int) := by omega
      obtain ⟨⟨qt, q⟩, hq⟩ : ∃ e, s.sh[i]? = some e := ⟨_, List.getElem?_eq_getElem (by have := HN.out; omega)⟩
      obtain ⟨g, cp, e1, -, hcell⟩ := HH.out.rs.cellAt (fun e _ => twc_len e) hq
      simp only [Value.slice.injEq] at e1
      obtain ⟨rfl, -, rfl⟩ := e1
      have c3 : wr.cell? ⟨g, i * 2 + 1, none⟩ = some (.int .i64 q) := hcell 1 _ rfl
      have HS := Hid.mk' (sums_take hq)
      have hq1 : 1 ≤ q := (HH.out.ok.sk _ (List.mem_of_getElem? hq)).2
      have HB2 := Hid.mk' (sums_bound (fun p hp => (HH.out.ok.sk p hp).2) (i + 1))
      obtain ⟨S, hS⟩ : ∃ S, S = sums (s.sh.take i) := ⟨_, rfl⟩
      rw [← hS] at HS HB ⊢
      have hq2 : q ≤ 1024 := by have := HS.out; have := HB2.out; have := HB.out; have := HM.out; omega
      have hS1 : 0 ≤ S := HB.out.1
      have hS2 : S ≤ 1024 := by have := HB.out; have := HM.out; omega
      have hM2 : (M : Int) ≤ 1024 := HM.out.2.1
      clear hcell hq hS
      go_wp2
      exact ⟨⟨i + 1, by omega, by go_num, by rw [HS.out]; congr 1; simp only at *; omega, (by first | rfl | trivial)⟩, by simp [intOf]; omega⟩
    · have hlti : ¬ ((i : Int) < (n : Int)) := by omega
      have HE : Hid ((M : Int) - sums (s.sh.take i) = s.left) := by
        show _ = _
        rw [List.take_of_length_le (by have := HN.out; omega)]
        unfold St.left
        rw [HM.out.1]
      generalize sums (s.sh.take i) = S at *
      go_wp2
      go_ret
      exact ⟨congrArg (fun b => Ending.returned (.int .i64 b)) (HE.out.trans HLF.out.symm), rfl⟩
end
end Go.Proofs.Ytmlklmhochihbaa
/- frames: find, Left, Clean, Written, Pinned. -/
namespace Go.Proofs.Ytmlklmhochihbaa
open Go.RowKit Go.Maps

theorem zPtr (w : World) : (zeroValue 86).run Try.prog w = .ok (.pointer none) w := by kernel_rfl
theorem zInt (w : World) : (zeroValue 3).run Try.prog w = .ok (.int .i64 0) w := by kernel_rfl
theorem find_nil (w : World) (K : Int) : Calls Try.prog 44 #[.pointer none, .int .i64 K] w fun e w' => e = .returned (.pointer none) ∧ w' = w := by
  go_enter Try.func44, Try.ntmps44
  go_wp2
  go_ret
  exact ⟨rfl, rfl⟩
section
variable {w w' : World} {own own' : Owner} {gt gr gf gp gh gm : Nat} {fb : Int → Nat} {PL : List (Int × Int)} {s s' : St} {R : Nat → Prop}
theorem Fm.wrF (h : Fm w own gt gr gf gp gh gm fb PL s) {e0 : FrE} (he0 : e0 ∈ s.fr) : Wr own (fb e0.1) := by
  unfold Wr
  rw [h.ofb e0 he0]
  exact ⟨(fun e => nomatch e), tFr_byt _⟩
set_option maxRecDepth 100000 in
theorem Fm.looks (h : Fm w own gt gr gf gp gh gm fb PL s) {K : Int} (hK : i64 K) : (s.has K = true → (Instr.lookup 82 (.map (some gf)) (.int .i64 K) false).run Try.prog w = .ok (ptr (fb K)) w) ∧ (s.has K = false → (Instr.lookup 82 (.map (some gf)) (.int .i64 K) false).run Try.prog w = .ok (.pointer none) w) := by
  have hl := h.frm.look (t := 82) (et := 86) keyIa Try.underlying82 zPtr (keyOfIa K hK) false
  refine ⟨fun hh => ?_, fun hh => ?_⟩
  · exact hl.1 K (hasK_keys.1 hh) rfl
  · refine hl.2 (fun x hx e => ?_)
    have : s.has K = true := hasK_keys.2 (by rw [← iv_inj e]; exact hx)
    rw [hh] at this; cases this
set_option maxRecDepth 100000 in
theorem find_has (h : Fm w own gt gr gf gp gh gm fb PL s) {K : Int} (hK : i64 K) (hh : s.has K = true) : Calls Try.prog 44 #[ptr gt, .int .i64 K] w fun e w' => e = .returned (ptr (fb K)) ∧ w' = w := by
  have HL := Hid.mk' ((h.looks hK).1 hh)
  have c3 : w.cell? ⟨gt, 3, none⟩ = some (.map (some gf)) := h.blk.cell 3
  clear h hK hh
  go_enter Try.func44, Try.ntmps44
  go_wp2_with (first
    | (refine wpList_runH rfl (exec_lookup rfl rfl rfl HL.out) ?_)
    | fail)
  go_ret
  exact ⟨rfl, rfl⟩
set_option maxRecDepth 100000 in
theorem find_not (h : Fm w own gt gr gf gp gh gm fb PL s) {K : Int} (hK : i64 K) (hh : s.has K = false) : Calls Try.prog 44 #[ptr gt, .int .i64 K] w fun e w' => e = .returned (.pointer none) ∧ w' = w := by
  have HL := Hid.mk' ((h.looks hK).2 hh)
  have c3 : w.cell? ⟨gt, 3, none⟩ = some (.map (some gf)) := h.blk.cell 3
  clear h hK hh
  go_enter Try.func44, Try.ntmps44
  go_wp2_with (first
    | (refine wpList_runH rfl (exec_lookup rfl rfl rfl HL.out) ?_)
    | fail)
  go_ret
  exact ⟨rfl, rfl⟩
set_option maxRecDepth 100000 in
theorem left_any (h : Ft w own gt s) : Calls Try.prog 24 #[ptr gt] w fun e w' => e = .returned (.int .i64 s.left) ∧ w' = w := by
  obtain ⟨gr, gf, gp, gh, gm, fb, PL, h⟩ := h
  have c1 : w.cell? ⟨gt, 1, none⟩ = some (.int .i64 s.left) := h.blk.cell 1
  generalize s.left = L at *
  clear h
  go_enter Try.func24, Try.ntmps24
  go_wp2
  go_ret
  exact ⟨rfl, rfl⟩
theorem left_nil (w : World) : Calls Try.prog 24 #[.pointer none] w fun e w' => e = .returned (.int .i64 0) ∧ w' = w := by
  go_enter Try.func24, Try.ntmps24
  go_wp2
  go_ret
  exact ⟨rfl, rfl⟩
theorem pinned_nil (w : World) (K : Int) : Calls Try.prog 26 #[.pointer none, .int .i64 K] w fun e w' => e = .returned (.bool false) ∧ w' = w := by
  go_enter Try.func26, Try.ntmps26
  go_wp2_with fail
  refine Calls.mono (find_nil w K) ?_
  rintro e w' ⟨rfl, rfl⟩
  go_wp2
  go_ret
  exact ⟨rfl, rfl⟩
theorem written_nil (w : World) (K : Int) : Calls Try.prog 28 #[.pointer none, .int .i64 K] w fun e w' => e = .returned (.bool false) ∧ w' = w := by
  go_enter Try.func28, Try.ntmps28
  go_wp2_with fail
  refine Calls.mono (find_nil w K) ?_
  rintro e w' ⟨rfl, rfl⟩
  go_wp2
  go_ret
  exact ⟨rfl, rfl⟩
theorem clean_nil (w : World) (K : Int) : Calls Try.prog 27 #[.pointer none, .int .i64 K] w fun e w' => e = .returned (.int .i64 5) ∧ w' = w := by
  go_enter Try.func27, Try.ntmps27
  go_wp2_with fail
  refine Calls.mono (find_nil w K) ?_
  rintro e w' ⟨rfl, rfl⟩
  go_wp2
  go_ret
  exact ⟨rfl, rfl⟩
theorem St.at_mark (h : Sok s) {e : FrE} (he : e ∈ s.fr) : s.mark e.1 = e.2.2 ∧ s.bytes e.1 = e.2.1 := by
  unfold St.mark St.bytes
  rw [find_key h.nd he]
  exact ⟨rfl, rfl⟩
theorem St.mark_none {K : Int} (hh : s.has K = false) : s.mark K = false := by
  unfold St.mark
  rw [List.find?_eq_none.2 (fun e he => by simpa using St.has_not.1 hh e he)]
  rfl
theorem St.pinned_none (h : Sok s) {K : Int} (hh : s.has K = false) : s.pinned K = false := by
  unfold St.pinned
  rw [List.any_eq_false]
  intro p hp e
  have h1 := (h.pk p hp).2.2
  rw [show p.2 = K by simpa using e, hh] at h1
  cases h1
set_option maxRecDepth 100000 in
theorem written_any (h : Ft w own gt s) {K : Int} (hK : i64 K) : Calls Try.prog 28 #[ptr gt, .int .i64 K] w fun e w' => e = .returned (.bool (s.mark K)) ∧ w' = w := by
  obtain ⟨gr, gf, gp, gh, gm, fb, PL, h⟩ := h
  cases hh : s.has K with
  | false =>
    have HF := Hid.mk' (find_not h hK hh)
    rw [St.mark_none hh]
    clear h hK hh
    go_enter Try.func28, Try.ntmps28
    go_wp2_with fail
    refine Calls.mono HF.out ?_
    rintro e w' ⟨rfl, rfl⟩
    go_wp2
    go_ret
    exact ⟨rfl, rfl⟩
  | true =>
    have HF := Hid.mk' (find_has h hK hh)
    obtain ⟨e0, he0, rfl⟩ := St.has_iff.1 hh
    obtain ⟨v, hb, -⟩ := h.each e0 he0
    have c1 : w.cell? ⟨fb e0.1, 1, none⟩ = some (.bool e0.2.2) := hb.cell 1
    rw [(St.at_mark h.ok he0).1]
    generalize e0.1 = K at *
    generalize e0.2.2 = m at *
    generalize fb K = g at *
    clear h hK hh hb
    go_enter Try.func28, Try.ntmps28
    go_wp2_with fail
    refine Calls.mono HF.out ?_
    rintro e w' ⟨rfl, hw⟩
    have h2 := hw.symm
    subst h2
    clear hw
    go_wp2
    go_ret
    exact ⟨rfl, rfl⟩
set_option maxRecDepth 100000 in
theorem pinned_any (h : Ft w own gt s) {K : Int} (hK : i64 K) : Calls Try.prog 26 #[ptr gt, .int .i64 K] w fun e w' => e = .returned (.bool (s.pinned K)) ∧ w' = w := by
  obtain ⟨gr, gf, gp, gh, gm, fb, PL, h⟩ := h
  cases hh : s.has K with
  | false =>
    have HF := Hid.mk' (find_not h hK hh)
    rw [St.pinned_none h.ok hh]
    clear h hK hh
    go_enter Try.func26, Try.ntmps26
    go_wp2_with fail
    refine Calls.mono HF.out ?_
    rintro e w' ⟨rfl, rfl⟩
    go_wp2
    go_ret
    exact ⟨rfl, rfl⟩
  | true =>
    have HF := Hid.mk' (find_has h hK hh)
    obtain ⟨e0, he0, rfl⟩ := St.has_iff.1 hh
    obtain ⟨v, hb, -⟩ := h.each e0 he0
    obtain ⟨N, hN⟩ : ∃ N : Int, N = (cnt PL e0.1 : Int) := ⟨_, rfl⟩
    have c1 : w.cell? ⟨fb e0.1, 2, none⟩ = some (.int .i64 N) := by rw [hN]; exact hb.cell 2
    have hp : decide (0 < N) = s.pinned e0.1 := by
      rw [← h.pinned e0.1, hN, Bool.eq_iff_iff, decide_eq_true_eq, decide_eq_true_eq]
      omega
    rw [← hp]
    generalize e0.1 = K at *
    generalize fb K = g at *
    clear h hK hh hb hp hN
    go_enter Try.func26, Try.ntmps26
    go_wp2_with fail
    refine Calls.mono HF.out ?_
    rintro e w' ⟨rfl, hw⟩
    have h2 := hw.symm
    subst h2
    clear hw
    go_wp2
    go_ret
    exact ⟨rfl, rfl⟩
/-- Clean. -/
theorem St.clean_none {K : Int} (hh : s.has K = false) : s.clean K = s := by
  unfold St.clean
  have : s.fr.map (fun e : FrE => if e.1 == K then (e.1, e.2.1, false) else e) = s.fr := by
    rw [List.map_congr_left (g := id) (fun e he => by
      have : (e.1 == K) = false := by simpa using St.has_not.1 hh e he
      simp [this]), List.map_id]
  rw [this]
set_option maxRecDepth 100000 in
theorem clean_any (h : Ft w own gt s) {K : Int} (hK : i64 K) : Calls Try.prog 27 #[ptr gt, .int .i64 K] w fun e w' => e = .returned (.int .i64 (if s.has K then 0 else 5)) ∧ FtTo w own gt (s.clean K) w' := by
  have HS := Hid.mk' (h.same (But.refl _ w))
  obtain ⟨gr, gf, gp, gh, gm, fb, PL, h⟩ := h
  cases hh : s.has K with
  | false =>
    have HF := Hid.mk' (find_not h hK hh)
    rw [St.clean_none hh]
    clear h hK hh
    go_enter Try.func27, Try.ntmps27
    go_wp2_with fail
    refine Calls.mono HF.out ?_
    rintro e w' ⟨rfl, rfl⟩
    go_wp2
    go_ret
    exact ⟨rfl, HS.out⟩
  | true =>
    have HF := Hid.mk' (find_has h hK hh)
    obtain ⟨e0, he0, rfl⟩ := St.has_iff.1 hh
    obtain ⟨v, hb, hv⟩ := h.each e0 he0
    have c1 : w.cell? ⟨fb e0.1, 1, none⟩ = some (.bool e0.2.2) := hb.cell 1
    have f1 : w.frozen? ⟨fb e0.1, 1, none⟩ = false := hb.free 1
    have HFIN : Hid (FtTo w own gt (s.clean e0.1) (w.setCell ⟨fb e0.1, 1, none⟩ (.bool false))) := by
      have hk := But.set1 w (fb e0.1) 1 (.bool false)
      have h1 := h.store he0 (own' := own) (v := v) (b := e0.2.1) (wr := false) (Ext.refl _) (h.top.grow hk.size) hk (h.ok.ik e0 he0).2 (hb.set 1 (.bool false)) (hv.but hk (fun j hj => h.fbne he0 hj (fun e => tFr_byt _ e.symm)))
      have e1 : ({ s with fr := s.fr.map (fun e => if e.1 == e0.1 then (e.1, e0.2.1, false) else e) } : St) = s.clean e0.1 := by
        unfold St.clean
        congr 1
        apply List.map_congr_left
        intro e he
        by_cases hq : e.1 = e0.1
        · rw [one_key h.ok.nd he he0 hq]
        · have : (e.1 == e0.1) = false := by simpa using hq
          simp [this]
      rw [e1] at h1
      exact ⟨⟨own, ⟨_, _, _, _, _, _, _, h1⟩, Ext.refl _, Fresh.refl _ _⟩, hk.mono (fun b _ e => by rw [e]; exact h.wrF he0)⟩
    generalize e0.1 = K at *
    generalize e0.2.2 = m at *
    generalize fb K = g at *
    clear h hK hh hb hv
    go_enter Try.func27, Try.ntmps27
    go_wp2_with fail
    refine Calls.mono HF.out ?_
    rintro e w' ⟨rfl, hw⟩
    have h2 := hw.symm
    subst h2
    clear hw
    go_wp2
    go_ret
    exact ⟨rfl, HFIN.out⟩
end
end Go.Proofs.Ytmlklmhochihbaa
/- frames: Reserve, Warm, Get, Drop. -/
namespace Go.Proofs.Ytmlklmhochihbaa
open Go.RowKit Go.Maps

theorem wpList_skipH {ops : Array Oper} {rest : List Oper} {o : Oper} {a : Act} {w w' : World} {Q : Exit → Act → World → Prop} (hgd : o.guard = none) (hr : (execOp a.eval o).run Try.prog w = .ok .skip w') (h : wpList Try.prog ops Q rest (a.put o.dst undef) w') : wpList Try.prog ops Q (o :: rest) a w :=
  wpList_plain hgd fun _ hK => by
    unfold Oper.wp
    rw [hr]
    exact hK _ _ h
theorem wrapI {x : Int} (h : -9223372036854775808 ≤ x) (h2 : x ≤ 9223372036854775807) : IntKind.i64.wrap x = x := by
  simp [IntKind.wrap, IntKind.bits, IntKind.signed]; omega
theorem reserve_nil (w : World) (t n : Int) : Calls Try.prog 20 #[.pointer none, .int .i64 t, .int .i64 n] w fun e w' => e = .returned (.int .i64 5) ∧ w' = w := by
  go_enter Try.func20, Try.ntmps20
  go_wp2
  go_ret
  exact ⟨rfl, rfl⟩
theorem warm_nil (w : World) (K : Int) (y : Nat) : Calls Try.prog 25 #[.pointer none, .int .i64 K, .float .f64 y] w fun e w' => e = .returned (.tuple #[]) ∧ w' = w := by
  go_enter Try.func25, Try.ntmps25
  go_wp2_with fail
  refine Calls.mono (find_nil w K) ?_
  rintro e w' ⟨rfl, rfl⟩
  go_wp2
  go_end0
  exact ⟨rfl, rfl⟩
theorem get_nil (w : World) (K : Int) : Calls Try.prog 18 #[.pointer none, .int .i64 K] w fun e w' => e = .returned (.tuple #[.slice none 0 0, .int .i64 5]) ∧ w' = w := by
  go_enter Try.func18, Try.ntmps18
  go_wp2_with fail
  refine Calls.mono (find_nil w K) ?_
  rintro e w' ⟨rfl, rfl⟩
  go_wp2
  exact bodyPost_ret (results_tmp2 rfl _ _ _) rfl ⟨rfl, rfl⟩
theorem fdrop_nil (w : World) (K : Int) : Calls Try.prog 15 #[.pointer none, .int .i64 K] w fun e w' => e = .returned (.int .i64 5) ∧ w' = w := by
  go_enter Try.func15, Try.ntmps15
  go_wp2_with fail
  refine Calls.mono (find_nil w K) ?_
  rintro e w' ⟨rfl, rfl⟩
  go_wp2
  go_ret
  exact ⟨rfl, rfl⟩
section
variable {w w' : World} {own own' : Owner} {gt gr gf gp gh gm : Nat} {fb : Int → Nat} {PL : List (Int × Int)} {s s' : St} {R : Nat → Prop}
theorem Fm.shareLook (h : Fm w own gt gr gf gp gh gm fb PL s) {t : Int} (ht : i64 t) : (Instr.lookup 81 (.map (some gr)) (.int .i64 t) false).run Try.prog w = .ok (.int .i64 (share s.sh t)) w := by
  have hl := h.res.look (t := 81) (et := 3) keyIa Try.underlying81 zInt (keyOfIa t ht) false
  by_cases hh : ∃ p ∈ s.sh, p.1 = t
  · obtain ⟨p, hp, rfl⟩ := hh
    rw [share_of h.ok.tn (n := p.2) hp]
    exact hl.1 p hp rfl
  · rw [share_none (fun p hp e => hh ⟨p, hp, e⟩)]
    exact hl.2 (fun p hp e => hh ⟨p, hp, iv_inj e⟩)
theorem Ft.one (h : Fm w own gt gr gf gp gh gm fb PL s) (hb : But (Wr own) w' w) : FtTo w' own gt s w := ⟨⟨own, ⟨_, _, _, _, _, _, _, h⟩, Ext.refl _, Fresh.refl _ _⟩, hb⟩
set_option maxRecDepth 100000 in
set_option maxHeartbeats 2000000 in
theorem reserve_any (h : Ft w own gt s) {t n : Int} (ht : i64 t) : Calls Try.prog 20 #[ptr gt, .int .i64 t, .int .i64 n] w fun e w' => e = .returned (.int .i64 (s.resc t n)) ∧ FtTo w own gt (s.res t n) w' := by
  have hsm := h.same (But.refl _ w)
  obtain ⟨gr, gf, gp, gh, gm, fb, PL, h⟩ := h
  have HL := Hid.mk' (h.shareLook ht)
  have hsp := share_pos (fun p hp => (h.ok.sk p hp).2) t
  have hheld : s.held t = decide (0 < share s.sh t) := hsp.symm
  have c1 : w.cell? ⟨gt, 1, none⟩ = some (.int .i64 s.left) := h.blk.cell 1
  have c2 : w.cell? ⟨gt, 2, none⟩ = some (.map (some gr)) := h.blk.cell 2
  have hrc : s.resc t n = if n < 1 then 1 else if 0 < share s.sh t then 6 else if s.left < n then 12 else 0 := by
    unfold St.resc
    rw [hheld]
    simp only [decide_eq_true_eq]
  by_cases h1 : n < 1
  · rw [if_pos h1] at hrc
    have HS : Hid (FtTo w own gt (s.res t n) w) := by unfold St.res; rw [hrc]; exact hsm
    rw [hrc]
    clear h hsm hsp hheld hrc ht c1 c2 HL
    go_enter Try.func20, Try.ntmps20
    go_wp2
    go_ret
    exact ⟨rfl, HS.out⟩
  rw [if_neg h1] at hrc
  by_cases h2 : 0 < share s.sh t
  · rw [if_pos h2] at hrc
    have HS : Hid (FtTo w own gt (s.res t n) w) := by unfold St.res; rw [hrc]; exact hsm
    rw [hrc]
    generalize share s.sh t = q at *
    clear h hsm hsp hheld hrc ht c1
    go_enter Try.func20, Try.ntmps20
    go_wp2_with (first
      | (refine wpList_runH rfl (exec_lookup rfl rfl rfl HL.out) ?_)
      | fail)
    go_ret
    exact ⟨rfl, HS.out⟩
  rw [if_neg h2] at hrc
  by_cases h3 : s.left < n
  · rw [if_pos h3] at hrc
    have HS : Hid (FtTo w own gt (s.res t n) w) := by unfold St.res; rw [hrc]; exact hsm
    rw [hrc]
    generalize share s.sh t = q at *
    generalize s.left = L at *
    clear h hsm hsp hheld hrc ht
    go_enter Try.func20, Try.ntmps20
    go_wp2_with (first
      | (refine wpList_runH rfl (exec_lookup rfl rfl rfl HL.out) ?_)
      | fail)
    go_ret
    exact ⟨rfl, HS.out⟩
  rw [if_neg h3] at hrc
  have hok : Sok { s with sh := s.sh ++ [(t, n)] } := by
    have := h.ok.res (n := n) ht
    unfold St.res at this
    rw [if_pos hrc] at this
    exact this
  have hno : ∀ p ∈ s.sh, p.1 ≠ t := fun p hp e => by
    have : s.held t = true := by unfold St.held; rw [List.any_eq_true]; exact ⟨p, hp, by simpa using e⟩
    rw [hheld] at this
    exact h2 (by simpa using this)
  obtain ⟨w1, hr1, hm1, hb1, -⟩ := h.res.put (t := 81) (et := 3) keyIa Try.underlying81 (t, n) (keyOfIa t ht) (fun p hp e => hno p hp (iv_inj e))
  have hgtr : ¬ gt = gr := fun e => by have := h.ot; rw [e, h.ort] at this; cases this
  have hbk1 := h.blk.but hb1 hgtr
  have HPUT := Hid.mk' hr1
  have d1 : w1.cell? ⟨gt, 1, none⟩ = some (.int .i64 s.left) := hbk1.cell 1
  have f1 : w1.frozen? ⟨gt, 1, none⟩ = false := hbk1.free 1
  have hl0 := h.ok.left0
  have hm2 := h.ok.m2
  have hL1 : s.left ≤ 1024 := by omega
  have hL0 : 0 ≤ s.left := hl0.1
  have HFIN : Hid (FtTo w own gt (s.res t n) (w1.setCell ⟨gt, 1, none⟩ (.int .i64 (s.left - n)))) := by
    have e1 : s.res t n = { s with sh := s.sh ++ [(t, n)] } := by unfold St.res; rw [if_pos hrc]
    have hlf : ({ s with sh := s.sh ++ [(t, n)] } : St).left = s.left - n := by
      show (s.most : Int) - sums (s.sh ++ [(t, n)]) = (s.most : Int) - sums s.sh - n
      rw [sums_append, sums_cons, sums_nil]; omega
    have hk := But.set1 w1 gt 1 (.int .i64 (s.left - n))
    rw [e1]
    refine Ft.one (h.shrd (w' := w1.setCell ⟨gt, 1, none⟩ (.int .i64 (s.left - n))) ((hb1.mono (fun _ _ e => .inl e)).trans (hk.mono (fun _ _ e => .inr e))) hok ?_ (hm1.but hk (fun e => hgtr e.symm))) ?_
    · rw [hlf]
      exact hbk1.set 1 (.int .i64 (s.left - n))
    · refine (hb1.mono (fun b _ e => ?_)).trans (hk.mono (fun b _ e => ?_))
      · rw [e, Wr, h.ort]; exact ⟨by decide, by decide⟩
      · rw [e, Wr, h.ot]; exact ⟨by decide, by decide⟩
  rw [hrc]
  generalize share s.sh t = q at *
  generalize s.left = L at *
  clear h hsm hsp hheld hrc ht hok hno hr1 hm1 hb1 hgtr hbk1 hl0 hm2
  go_enter Try.func20, Try.ntmps20
  go_wp2_with (first
    | (refine wpList_runH rfl (exec_lookup rfl rfl rfl HL.out) ?_)
    | (refine wpList_skipH rfl (exec_mapUpdate rfl rfl rfl rfl HPUT.out) ?_)
    | fail)
  go_ret
  exact ⟨rfl, HFIN.out⟩
/-- Warm. -/
theorem Fm.warmed (h : Fm w own gt gr gf gp gh gm fb PL s) {K : Int} {y : Nat} (k : HtTo w gh gm 16 (s.now + 1) (ttouch 16 s.now (look s.hl) K y) w') : FtTo w own gt (s.touch K y) w' := by
  rw [← look_touched] at k
  refine Ft.one (h.heatd k) (k.but.mono (fun b _ e => ?_))
  rcases e with e | e
  · rw [e, Wr, h.ogh]; exact ⟨by decide, by decide⟩
  · rw [e, Wr, h.ogm]; exact ⟨by decide, by decide⟩
set_option maxRecDepth 100000 in
theorem warm_any (h : Ft w own gt s) {K : Int} (hK : i64 K) {y : Nat} (hn : s.now < 1000000) : Calls Try.prog 25 #[ptr gt, .int .i64 K, .float .f64 y] w fun e w' => e = .returned (.tuple #[]) ∧ FtTo w own gt (s.warm K y) w' := by
  have hsm := h.same (But.refl _ w)
  obtain ⟨gr, gf, gp, gh, gm, fb, PL, h⟩ := h
  cases hh : s.has K with
  | false =>
    have HF := Hid.mk' (find_not h hK hh)
    have HS : Hid (FtTo w own gt (s.warm K y) w) := by unfold St.warm; rw [hh]; exact hsm
    clear h hK hh hsm hn
    go_enter Try.func25, Try.ntmps25
    go_wp2_with fail
    refine Calls.mono HF.out ?_
    rintro e w' ⟨rfl, rfl⟩
    go_wp2
    go_end0
    exact ⟨rfl, HS.out⟩
  | true =>
    have HF := Hid.mk' (find_has h hK hh)
    have HT := Hid.mk' (touch_any h.ht hK (y := y) hn)
    have HS : Hid (∀ w', HtTo w gh gm 16 (s.now + 1) (ttouch 16 s.now (look s.hl) K y) w' → FtTo w own gt (s.warm K y) w') := fun w' k => by unfold St.warm; rw [hh]; exact h.warmed k
    have c5 : w.cell? ⟨gt, 5, none⟩ = some (ptr gh) := h.blk.cell 5
    generalize fb K = g at *
    clear h hK hh hsm hn
    go_enter Try.func25, Try.ntmps25
    go_wp2_with fail
    refine Calls.mono HF.out ?_
    rintro e w' ⟨rfl, hw⟩
    have h2 := hw.symm
    subst h2
    clear hw
    go_wp2_with fail
    refine Calls.mono HT.out ?_
    rintro e w2 ⟨rfl, ht⟩
    have HW := Hid.mk' (HS.out w2 ht)
    clear ht
    go_wp2
    go_end0
    exact ⟨rfl, HW.out⟩
/-- Get. -/
theorem get_not (h : Ft w own gt s) {K : Int} (hK : i64 K) (hh : s.has K = false) : Calls Try.prog 18 #[ptr gt, .int .i64 K] w fun e w' => e = .returned (.tuple #[.slice none 0 0, .int .i64 5]) ∧ w' = w := by
  obtain ⟨gr, gf, gp, gh, gm, fb, PL, h⟩ := h
  have HF := Hid.mk' (find_not h hK hh)
  clear h hK hh
  go_enter Try.func18, Try.ntmps18
  go_wp2_with fail
  refine Calls.mono HF.out ?_
  rintro e w' ⟨rfl, rfl⟩
  go_wp2
  exact bodyPost_ret (results_tmp2 rfl _ _ _) rfl ⟨rfl, rfl⟩
def oneF : Nat := 4607182418800017408
set_option maxRecDepth 100000 in
theorem get_has (h : Ft w own gt s) {K : Int} (hK : i64 K) (hh : s.has K = true) (hn : s.now < 1000000) : Calls Try.prog 18 #[ptr gt, .int .i64 K] w fun e w' => ∃ v w1, e = .returned (.tuple #[v, .int .i64 0]) ∧ FtTo w own gt (s.touch K oneF) w1 ∧ Ow w' w1.heap.size v (s.bytes K) ∧ Below w1.heap.size w1 w' := by
  obtain ⟨gr, gf, gp, gh, gm, fb, PL, h⟩ := h
  have HF := Hid.mk' (find_has h hK hh)
  have HT := Hid.mk' (touch_any h.ht hK (y := 4607182418800017408) hn)
  have HS : Hid (∀ w', HtTo w gh gm 16 (s.now + 1) (ttouch 16 s.now (look s.hl) K 4607182418800017408) w' → FtTo w own gt (s.touch K oneF) w') := fun w' k => h.warmed k
  have c5 : w.cell? ⟨gt, 5, none⟩ = some (ptr gh) := h.blk.cell 5
  obtain ⟨e0, he0, rfl⟩ := St.has_iff.1 hh
  obtain ⟨v, hb, hv⟩ := h.each e0 he0
  have ngh : ∀ b t, own b = t → t ≠ .imr → t ≠ .pic → ¬ (b = gh ∨ b = gm) := fun b t e h1 h2 e2 => by
    rcases e2 with e2 | e2
    · rw [e2, h.ogh] at e; exact h1 e.symm
    · rw [e2, h.ogm] at e; exact h2 e.symm
  have HB : Hid (∀ w2, But (fun b => b = gh ∨ b = gm) w w2 → Blk w2 (fb e0.1) 89 (fcl v e0.2.2 (cnt PL e0.1)) ∧ Bs w2 v (s.bytes e0.1)) := fun w2 k =>
    ⟨hb.but k (ngh _ _ (h.ofb e0 he0) (fun e => nomatch e) (fun e => nomatch e)), by rw [(St.at_mark h.ok he0).2]; exact (hv.but k (fun j hj => ngh _ _ hj (fun e => nomatch e) (fun e => nomatch e))).1⟩
  have HLN : Hid ((s.bytes e0.1).length ≤ 140737488355328) := by show _ ≤ _; rw [(St.at_mark h.ok he0).2]; have := (h.ok.ik e0 he0).2; omega
  generalize s.bytes e0.1 = B at *
  generalize e0.1 = K at *
  generalize fb K = g at *
  generalize cnt PL K = m at *
  generalize e0.2.2 = q at *
  clear h hK hh hn hb hv ngh
  go_enter Try.func18, Try.ntmps18
  go_wp2_with fail
  refine Calls.mono HF.out ?_
  rintro e w' ⟨rfl, hw⟩
  have h2 := hw.symm
  subst h2
  clear hw
  go_wp2_with fail
  refine Calls.mono HT.out ?_
  rintro e w2 ⟨rfl, ht⟩
  have HW := Hid.mk' (HS.out w2 ht)
  obtain ⟨hb2, hv2⟩ := HB.out w2 ht.but
  have HCL := Hid.mk' (clone_any hv2 HLN.out)
  have d0 : w2.cell? ⟨g, 0, none⟩ = some v := hb2.cell 0
  obtain ⟨ao, nn, cap, rfl⟩ := hv2.sl
  clear ht hb2 hv2
  go_wp2_with fail
  refine Calls.mono HCL.out ?_
  rintro e w3 ⟨v3, rfl, how, hbe⟩
  have HO := Hid.mk' how
  have HBE := Hid.mk' hbe
  obtain ⟨ao3, n3, cap3, rfl⟩ := how.bs.sl
  clear how hbe
  go_wp2
  exact bodyPost_ret (results_tmp2 rfl _ _ _) rfl ⟨_, w2, rfl, HW.out, HO.out, HBE.out⟩
/-- Drop. -/
theorem Fm.del (h : Fm w own gt gr gf gp gh gm fb PL s) {K : Int} (hc : s.dropc K = 0) (k : But (· = gf) w w') (hm : MapOf 3 w' gf iv (fun k => ptr (fb k)) ((s.fr.filter (fun e => !(e.1 == K))).map (·.1))) : Fm w' own gt gr gf gp gh gm fb PL { s with fr := s.fr.filter (fun e => !(e.1 == K)) } := by
  have ne : ∀ b t, own b = t → t ≠ .map → ¬ (b = gf) := fun b t e h1 e2 => by rw [e2, h.ogf] at e; exact h1 e.symm
  have hok := h.ok.drop K
  unfold St.drop at hok
  rw [if_pos hc] at hok
  exact ⟨h.blk.but k (ne _ _ h.ot (by decide)), h.res.but k (ne _ _ h.ort (by decide)), hm, h.pin.but k (ne _ _ h.ogp (by decide)), h.pnd, h.pmem,
    fun e he => by
      obtain ⟨v, h1, h2⟩ := h.each e (List.mem_filter.1 he).1
      exact ⟨v, h1.but k (ne _ _ (h.ofb e (List.mem_filter.1 he).1) (fun e => nomatch e)), h2.but k (fun j hj => ne _ _ hj (fun e => nomatch e))⟩,
    h.ht.but k (ne _ _ h.ogh (by decide)) (ne _ _ h.ogm (by decide)), h.ot, h.ort, h.ogf, h.ogp, h.ogh, h.ogm, fun e he => h.ofb e (List.mem_filter.1 he).1, ⟨hok.m1, hok.m2, hok.nd, hok.le, hok.ik, hok.pk, hok.tn, hok.sk, hok.sl⟩, h.pl, h.top.grow k.size⟩
set_option maxRecDepth 100000 in
theorem fdrop_any (h : Ft w own gt s) {K : Int} (hK : i64 K) : Calls Try.prog 15 #[ptr gt, .int .i64 K] w fun e w' => e = .returned (.int .i64 (s.dropc K)) ∧ FtTo w own gt (s.drop K) w' := by
  have hsm := h.same (But.refl _ w)
  obtain ⟨gr, gf, gp, gh, gm, fb, PL, h⟩ := h
  cases hh : s.has K with
  | false =>
    have HF := Hid.mk' (find_not h hK hh)
    have hc : s.dropc K = 5 := by unfold St.dropc; rw [hh]; rfl
    have HS : Hid (FtTo w own gt (s.drop K) w) := by unfold St.drop; rw [hc]; exact hsm
    rw [hc]
    clear h hK hh hsm hc
    go_enter Try.func15, Try.ntmps15
    go_wp2_with fail
    refine Calls.mono HF.out ?_
    rintro e w' ⟨rfl, rfl⟩
    go_wp2
    go_ret
    exact ⟨rfl, HS.out⟩
  | true =>
    have HF := Hid.mk' (find_has h hK hh)
    obtain ⟨e0, he0, hek⟩ := St.has_iff.1 hh
    obtain ⟨v, hb, hv⟩ := h.each e0 he0
    rw [hek] at hb
    obtain ⟨N, hN⟩ : ∃ N : Int, N = (cnt PL K : Int) := ⟨_, rfl⟩
    have c1 : w.cell? ⟨fb K, 2, none⟩ = some (.int .i64 N) := by rw [hN]; exact hb.cell 2
    have hp := h.pinned K
    cases hpn : s.pinned K with
    | true =>
      have hc : s.dropc K = 6 := by unfold St.dropc; rw [hh, hpn]; rfl
      have HS : Hid (FtTo w own gt (s.drop K) w) := by unfold St.drop; rw [hc]; exact hsm
      rw [hpn] at hp
      have hN0 : 0 < N := by rw [hN]; have := of_decide_eq_true hp; omega
      rw [hc]
      generalize fb K = g at *
      clear h hK hh hsm hc hp hpn hb hv hek he0 hN
      go_enter Try.func15, Try.ntmps15
      go_wp2_with fail
      refine Calls.mono HF.out ?_
      rintro e w' ⟨rfl, hw⟩
      have h2 := hw.symm
      subst h2
      clear hw
      go_wp2
      go_ret
      exact ⟨rfl, HS.out⟩
    | false =>
      have hc : s.dropc K = 0 := by unfold St.dropc; rw [hh, hpn]; rfl
      rw [hpn] at hp
      have hN0 : ¬ 0 < N := by rw [hN]; have := of_decide_eq_false hp; omega
      obtain ⟨w1, hd1, hm1, hb1, -⟩ := h.frm.del (l' := (s.fr.filter (fun e => !(e.1 == K))).map (·.1)) (t := 82) (et := 86) keyIa Try.underlying82 (keyOfIa K hK) (fun x => by
        unfold St.keys
        constructor
        · intro hx
          obtain ⟨e, he, rfl⟩ := List.mem_map.1 hx
          obtain ⟨h1, h2⟩ := List.mem_filter.1 he
          exact ⟨List.mem_map.2 ⟨e, h1, rfl⟩, fun e2 => by rw [iv_inj e2] at h2; simp at h2⟩
        · rintro ⟨hx, hne⟩
          obtain ⟨e, he, rfl⟩ := List.mem_map.1 hx
          exact List.mem_map.2 ⟨e, List.mem_filter.2 ⟨he, by
            have : e.1 ≠ K := fun e2 => hne (by rw [e2])
            simpa using this⟩, rfl⟩) 0
      have h1 := h.del hc hb1 hm1
      have HD := Hid.mk' hd1
      have HHD := Hid.mk' (drop_any h1.ht hK)
      have c3 : w.cell? ⟨gt, 3, none⟩ = some (.map (some gf)) := h.blk.cell 3
      have c5 : w1.cell? ⟨gt, 5, none⟩ = some (ptr gh) := h1.blk.cell 5
      have HS : Hid (∀ w2, HtTo w1 gh gm 16 s.now (tdrop (look s.hl) K) w2 → FtTo w own gt (s.drop K) w2) := fun w2 k => by
        rw [← look_dropped] at k
        have e1 : s.drop K = { ({ s with fr := s.fr.filter (fun e => !(e.1 == K)) } : St) with now := s.now, hl := s.hl.filter (fun e => !(e.1 == K)) } := by unfold St.drop; rw [if_pos hc]
        rw [e1]
        refine Ft.one (h1.heatd k) ((hb1.mono (fun b _ e => ?_)).trans (k.but.mono (fun b _ e => ?_)))
        · rw [e, Wr, h.ogf]; exact ⟨by decide, by decide⟩
        · rcases e with e | e
          · rw [e, Wr, h.ogh]; exact ⟨by decide, by decide⟩
          · rw [e, Wr, h.ogm]; exact ⟨by decide, by decide⟩
      rw [hc]
      generalize fb K = g at *
      clear h hK hh hsm hc hp hpn hb hv hek he0 hN hd1 hm1 hb1 h1
      go_enter Try.func15, Try.ntmps15
      go_wp2_with fail
      refine Calls.mono HF.out ?_
      rintro e w' ⟨rfl, hw⟩
      have h2 := hw.symm
      subst h2
      clear hw
      go_wp2_with (first
        | (refine wpList_runH rfl (exec_deleteH rfl rfl rfl HD.out) ?_)
        | fail)
      refine Calls.mono HHD.out ?_
      rintro e w2 ⟨rfl, ht⟩
      have HW := Hid.mk' (HS.out w2 ht)
      clear ht
      go_wp2
      go_ret
      exact ⟨rfl, HW.out⟩
end
end Go.Proofs.Ytmlklmhochihbaa
/- The reference's frames: what is set anew; without, Reserve, Free. -/
namespace Go.Proofs.Ytmlklmhochihbaa
open Go.RowKit

theorem infTw : (Try.prog.info? 74).map (fun i => (i.zero, i.size, i.bytes)) = some (some (.agg #[.int .i64 0, .int .i64 0]), 2, 16) := by kernel_rfl
theorem iTw : (Try.prog.info? 74).map (·.size) = some 2 := by kernel_rfl
theorem twc_one (e : Int × Int) : ∀ u ∈ twc e, u.oneCell' = true := by
  intro u hu
  unfold twc at hu
  simp only [List.mem_cons, List.not_mem_nil, or_false] at hu
  rcases hu with rfl | rfl <;> rfl
section
variable {w w' w1 : World} {ro ro' : Owner} {gx : Nat} {vl vp vs vh v' : Value} {FL FL' : List FrV} {s s' : St} {R : Nat → Prop} {sh pn : List (Int × Int)}
theorem own_lt {w : World} {base e s n : Nat} {v : Value} {xs : List Value} (h : w.ownsRow base e s v n xs) {k : Nat} (hk : v.ownBlock = some k) : k < w.heap.size := by
  obtain ⟨-, ⟨rfl, -⟩ | ⟨g, c, cu, rfl, -, hb, -⟩⟩ := h
  · cases hk
  · cases hk; exact lt_of_block hb
/-- Blocks that carry another tag than those which turn. -/
theorem neR {T : Tag} (hR : ∀ b, R b → ro b = T) {b : Nat} {t : Tag} (hb : ro b = t) (ht : t ≠ T) : ¬ R b := fun e => ht (hb.symm.trans (hR b e))
theorem tagF (h : Top w ro) {T : Tag} (hv : ∀ k, v'.ownBlock = some k → w.heap.size ≤ k ∨ ro k = T) : Ext ro (tagV ro v' T) ∧ Fresh w ro (tagV ro v' T) :=
  ⟨Ext.tagV (fun k hk => (hv k hk).elim (fun e => .inl (h k e)) .inr), (Fresh.refl _ _).tagV hv⟩
theorem oneV {w : World} {base e s n : Nat} {v : Value} {xs : List Value} (h : w.ownsRow base e s v n xs) : v.oneCell' = true := ownsRow_one h
/-- Other shares. -/
theorem RxM.setS (h : RxM w ro gx vl vp vs vh FL s) (k : But R w w1) (hR : ∀ b, R b → ro b = .wri) (hrow : w1.ownsRow 0 74 2 v' sh.length (sh.flatMap twc)) (hv : ∀ k, v'.ownBlock = some k → w.heap.size ≤ k ∨ ro k = .wri) (hok : Sok { s with sh := sh }) :
    RxM (w1.setCell ⟨gx, 3, none⟩ v') (tagV ro v' .wri) gx vl vp v' vh FL { s with sh := sh } ∧ Fresh w ro (tagV ro v' .wri) ∧ But (fun b => ro b ≠ .none ∧ ro b ≠ tByt) w (w1.setCell ⟨gx, 3, none⟩ v') := by
  obtain ⟨hx, hf⟩ := tagF h.top hv
  have k2 := But.set1 w1 gx 3 v'
  have nx : ∀ {b t}, ro b = t → t ≠ .dev → ¬ (b = gx) := fun {b t} hb ht e => ht (by rw [← hb, e]; exact h.ox)
  have vx : ∀ j, v'.ownBlock = some j → ¬ (j = gx) := fun j hj e => by
    rcases hv j hj with h1 | h1
    · have := h.ht.blk.lt; omega
    · exact nx h1 (by decide) e
  have kb : But (fun b => ro b ≠ .none ∧ ro b ≠ tByt) w (w1.setCell ⟨gx, 3, none⟩ v') := (k.mono (fun b _ e => by rw [hR b e]; exact ⟨by decide, by decide⟩)).trans (k2.mono (fun b _ e => by rw [e, h.ox]; exact ⟨by decide, by decide⟩))
  have hm : RxM (w1.setCell ⟨gx, 3, none⟩ v') (tagV ro v' .wri) gx vl vp v' vh FL { s with sh := sh } := by
    refine ⟨⟨(h.ht.blk.but k (neR hR h.ox (by decide))).set 3 v', ⟨ownsRow_but (ownsRow_but h.ht.row.own k (fun j hj => neR hR (h.oh j hj) (by decide))) k2 (fun j hj => h.ht.row.inF j hj), h.ht.row.inF⟩, h.ht.h1, h.ht.h2, h.ht.nw, h.ht.ln, h.ht.ok⟩,
      (h.rl.but k (fun j hj => neR hR hj (by decide)) (fun _ h => h)).but k2 (fun j hj => nx hj (by decide)) (hx.is (by decide)), h.fl, fun e he => ?_,
      (h.rp.but k (fun j hj => neR hR hj (by decide)) (fun _ h => h)).but k2 (fun j hj => nx hj (by decide)) (hx.is (by decide)),
      ⟨ownsRow_but hrow k2 vx, fun j hj => tagV_own hj⟩, fun j hj => hx.is (by decide) j (h.oh j hj), hx.is (by decide) _ h.ox, hok, h.pl, ?_⟩
    · have h3 := (((h.bt e he).but k (fun j hj => neR hR hj (fun e => nomatch e))).but k2 (fun j hj => nx hj (fun e => nomatch e)))
      exact ⟨h3.1, fun h0 j hj => hx.is (t := tByt) (fun e => nomatch e) j (h3.2 h0 j hj)⟩
    · exact ((h.top.grow k.size).tagV (fun j hj => own_lt hrow hj)).grow k2.size
  exact ⟨hm, hf, kb⟩
/-- Other pins. -/
theorem RxM.setP (h : RxM w ro gx vl vp vs vh FL s) (k : But R w w1) (hR : ∀ b, R b → ro b = .map) (hrow : w1.ownsRow 0 74 2 v' pn.length (pn.flatMap twc)) (hv : ∀ k, v'.ownBlock = some k → w.heap.size ≤ k ∨ ro k = .map) (hok : Sok { s with pins := pn }) (hpl : pn.length ≤ 100000) :
    RxM (w1.setCell ⟨gx, 2, none⟩ v') (tagV ro v' .map) gx vl v' vs vh FL { s with pins := pn } ∧ Fresh w ro (tagV ro v' .map) ∧ But (fun b => ro b ≠ .none ∧ ro b ≠ tByt) w (w1.setCell ⟨gx, 2, none⟩ v') := by
  obtain ⟨hx, hf⟩ := tagF h.top hv
  have k2 := But.set1 w1 gx 2 v'
  have nx : ∀ {b t}, ro b = t → t ≠ .dev → ¬ (b = gx) := fun {b t} hb ht e => ht (by rw [← hb, e]; exact h.ox)
  have vx : ∀ j, v'.ownBlock = some j → ¬ (j = gx) := fun j hj e => by
    rcases hv j hj with h1 | h1
    · have := h.ht.blk.lt; omega
    · exact nx h1 (by decide) e
  have kb : But (fun b => ro b ≠ .none ∧ ro b ≠ tByt) w (w1.setCell ⟨gx, 2, none⟩ v') := (k.mono (fun b _ e => by rw [hR b e]; exact ⟨by decide, by decide⟩)).trans (k2.mono (fun b _ e => by rw [e, h.ox]; exact ⟨by decide, by decide⟩))
  have hm : RxM (w1.setCell ⟨gx, 2, none⟩ v') (tagV ro v' .map) gx vl v' vs vh FL { s with pins := pn } := by
    refine ⟨⟨(h.ht.blk.but k (neR hR h.ox (by decide))).set 2 v', ⟨ownsRow_but (ownsRow_but h.ht.row.own k (fun j hj => neR hR (h.oh j hj) (by decide))) k2 (fun j hj => h.ht.row.inF j hj), h.ht.row.inF⟩, h.ht.h1, h.ht.h2, h.ht.nw, h.ht.ln, h.ht.ok⟩,
      (h.rl.but k (fun j hj => neR hR hj (by decide)) (fun _ h => h)).but k2 (fun j hj => nx hj (by decide)) (hx.is (by decide)), h.fl, fun e he => ?_,
      ⟨ownsRow_but hrow k2 vx, fun j hj => tagV_own hj⟩,
      (h.rs.but k (fun j hj => neR hR hj (by decide)) (fun _ h => h)).but k2 (fun j hj => nx hj (by decide)) (hx.is (by decide)), fun j hj => hx.is (by decide) j (h.oh j hj), hx.is (by decide) _ h.ox, hok, hpl, ?_⟩
    · have h3 := (((h.bt e he).but k (fun j hj => neR hR hj (fun e => nomatch e))).but k2 (fun j hj => nx hj (fun e => nomatch e)))
      exact ⟨h3.1, fun h0 j hj => hx.is (t := tByt) (fun e => nomatch e) j (h3.2 h0 j hj)⟩
    · exact ((h.top.grow k.size).tagV (fun j hj => own_lt hrow hj)).grow k2.size
  exact ⟨hm, hf, kb⟩
/-- Other frames, in another row; bytes that are new are tagged ahead. -/
theorem RxM.setL (h : RxM w ro gx vl vp vs vh FL s) (k : But R w w1) (hR : ∀ b, R b → ro b = .sto) (hrow : w1.ownsRow 0 65 3 v' FL'.length (FL'.flatMap fxc)) (hv : ∀ k, v'.ownBlock = some k → w.heap.size ≤ k ∨ ro k = .sto)
    {fr : List FrE} (hfl : FL'.map (·.1) = fr) (hbt : ∀ e ∈ FL', Bf w1 (fun j => ro j = tByt) e.2 e.1.2.1) (hok : Sok { s with fr := fr }) :
    RxM (w1.setCell ⟨gx, 1, none⟩ v') (tagV ro v' .sto) gx v' vp vs vh FL' { s with fr := fr } ∧ Fresh w ro (tagV ro v' .sto) ∧ But (fun b => ro b ≠ .none ∧ ro b ≠ tByt) w (w1.setCell ⟨gx, 1, none⟩ v') := by
  obtain ⟨hx, hf⟩ := tagF h.top hv
  have k2 := But.set1 w1 gx 1 v'
  have nx : ∀ {b t}, ro b = t → t ≠ .dev → ¬ (b = gx) := fun {b t} hb ht e => ht (by rw [← hb, e]; exact h.ox)
  have vx : ∀ j, v'.ownBlock = some j → ¬ (j = gx) := fun j hj e => by
    rcases hv j hj with h1 | h1
    · have := h.ht.blk.lt; omega
    · exact nx h1 (by decide) e
  have kb : But (fun b => ro b ≠ .none ∧ ro b ≠ tByt) w (w1.setCell ⟨gx, 1, none⟩ v') := (k.mono (fun b _ e => by rw [hR b e]; exact ⟨by decide, by decide⟩)).trans (k2.mono (fun b _ e => by rw [e, h.ox]; exact ⟨by decide, by decide⟩))
  have hm : RxM (w1.setCell ⟨gx, 1, none⟩ v') (tagV ro v' .sto) gx v' vp vs vh FL' { s with fr := fr } := by
    refine ⟨⟨(h.ht.blk.but k (neR hR h.ox (by decide))).set 1 v', ⟨ownsRow_but (ownsRow_but h.ht.row.own k (fun j hj => neR hR (h.oh j hj) (by decide))) k2 (fun j hj => h.ht.row.inF j hj), h.ht.row.inF⟩, h.ht.h1, h.ht.h2, h.ht.nw, h.ht.ln, h.ht.ok⟩,
      ⟨ownsRow_but hrow k2 vx, fun j hj => tagV_own hj⟩, hfl, fun e he => ?_,
      (h.rp.but k (fun j hj => neR hR hj (by decide)) (fun _ h => h)).but k2 (fun j hj => nx hj (by decide)) (hx.is (by decide)),
      (h.rs.but k (fun j hj => neR hR hj (by decide)) (fun _ h => h)).but k2 (fun j hj => nx hj (by decide)) (hx.is (by decide)), fun j hj => hx.is (by decide) j (h.oh j hj), hx.is (by decide) _ h.ox, hok, h.pl, ?_⟩
    · have h3 := ((hbt e he).but k2 (fun j hj => nx hj (fun e => nomatch e)))
      exact ⟨h3.1, fun h0 j hj => hx.is (t := tByt) (fun e => nomatch e) j (h3.2 h0 j hj)⟩
    · exact ((h.top.grow k.size).tagV (fun j hj => own_lt hrow hj)).grow k2.size
  exact ⟨hm, hf, kb⟩
/-- Other heats. -/
theorem RxM.setH (h : RxM w ro gx vl vp vs vh FL s) {n : Nat} {hl : List Sp} (k : FhTo w gx (.int .i64 (s.most : Int)) vl vp vs 16 n hl w') : RxTo w ro gx { s with now := n, hl := hl } w' := by
  obtain ⟨v, h1, h2⟩ := k.ex
  have hv : ∀ k, v.ownBlock = some k → w.heap.size ≤ k ∨ ro k = .imr := fun j hj => .inl (h2 j hj)
  obtain ⟨hx, hf⟩ := tagF h.top hv
  have nx : ∀ {b t}, ro b = t → t ≠ .dev → ¬ (b = gx) := fun {b t} hb ht e => ht (by rw [← hb, e]; exact h.ox)
  refine ⟨⟨_, ⟨vl, vp, vs, v, FL, h1, h.rl.but k.but (fun j hj => nx hj (by decide)) (hx.is (by decide)), h.fl, fun e he => ?_, h.rp.but k.but (fun j hj => nx hj (by decide)) (hx.is (by decide)), h.rs.but k.but (fun j hj => nx hj (by decide)) (hx.is (by decide)), fun j hj => tagV_own hj, hx.is (by decide) _ h.ox,
    ⟨h.ok.m1, h.ok.m2, h.ok.nd, h.ok.le, h.ok.ik, h.ok.pk, h.ok.tn, h.ok.sk, h.ok.sl⟩, h.pl, (h.top.grow k.but.size).tagV (fun j hj => own_lt h1.row.own hj)⟩, hf⟩, k.but.mono (fun b _ e => by rw [e, h.ox]; exact ⟨by decide, by decide⟩)⟩
  have h3 := ((h.bt e he).but k.but (fun j hj => nx hj (fun e => nomatch e)))
  exact ⟨h3.1, fun h0 j hj => hx.is (t := tByt) (fun e => nomatch e) j (h3.2 h0 j hj)⟩
theorem Fresh.trans {w w' : World} {a b c : Owner} (h1 : Fresh w a b) (hs : w.heap.size ≤ w'.heap.size) (h2 : Fresh w' b c) : Fresh w a c := fun i hi => by
  by_cases e : c i = b i
  · exact h1 i (by rw [← e]; exact hi)
  · exact Nat.le_trans hs (h2 i e)
theorem RxM.to (h : RxM w' ro' gx vl vp vs vh FL s) (hf : Fresh w ro ro') (hb : But (fun b => ro b ≠ .none ∧ ro b ≠ tByt) w w') : RxTo w ro gx s w' := ⟨⟨ro', ⟨_, _, _, _, _, h⟩, hf⟩, hb⟩
theorem RxTo.step {s2 : St} {w2 : World} (hf : Fresh w ro ro') (hb : But (fun b => ro b ≠ .none ∧ ro b ≠ tByt) w w') (h : RxTo w' ro' gx s2 w2) : RxTo w ro gx s2 w2 := by
  obtain ⟨o2, h3, h4⟩ := h.ex
  refine ⟨⟨o2, h3, hf.trans hb.size h4⟩, hb.then h.but (fun b hb e => ?_)⟩
  by_cases e2 : ro' b = ro b
  · rw [← e2]; exact e
  · exact absurd (hf b e2) (by omega)
end
section
variable {w : World} {v : Value} {L : List (Int × Int)} {Fr : Nat → Prop}
set_option maxRecDepth 100000 in
set_option maxHeartbeats 1000000 in
theorem rxwithout_any (h : RowOf w Fr 74 2 v L.length (L.flatMap twc)) (hl : L.length ≤ 100000) (t : Int) : Calls Try.prog 53 #[v, .int .i64 t] w fun e w' => ∃ v', e = .returned v' ∧ w'.ownsRow 0 74 2 v' (L.filter (fun p => !(p.1 == t))).length ((L.filter (fun p => !(p.1 == t))).flatMap twc) ∧ (∀ k, v'.ownBlock = some k → w.heap.size ≤ k) ∧ Grow w w' := by
  have HH := Hid.mk' h
  obtain ⟨n, hn⟩ : ∃ n, n = L.length := ⟨_, rfl⟩
  obtain ⟨ao, cap, e, -⟩ := h.shape
  rw [← hn] at e
  subst e
  have HN := Hid.mk' hn
  have hnb : (n : Int) ≤ 100000 := by omega
  clear h hn hl
  go_enter Try.func53, Try.ntmps53
  go_wp2
  go_loopw [5, 6] (fun rv iv wr => ∃ (i : Nat) (r : Value), i ≤ n ∧ iv = .int .i64 i ∧ r = rv ∧ wr.ownsRow 0 74 2 r ((L.take i).filter (fun p => !(p.1 == t))).length (((L.take i).filter (fun p => !(p.1 == t))).flatMap twc) ∧ (∀ k, r.ownBlock = some k → w.heap.size ≤ k) ∧ Grow w wr) (fun _ iv _ => n - (intOf iv).toNat)
  case atStart => exact ⟨0, _, Nat.zero_le _, rfl, rfl, by rw [List.take_zero]; exact World.ownsRow_nil _ _ _ _, (fun k hk => by cases hk), But.refl _ _⟩
  case round =>
    rename_i rv
    obtain ⟨i, r, hin, rfl, rfl, hT, hV, hG⟩ := hrel
    have HT := Hid.mk' hT
    have HV := Hid.mk' hV
    have HG := Hid.mk' hG
    by_cases hlt : i < n
    · have hlti : (i : Int) < (n : Int) := by omega
      obtain ⟨⟨qt, q⟩, hq⟩ : ∃ e, L[i]? = some e := ⟨_, List.getElem?_eq_getElem (by have := HN.out; omega)⟩
      obtain ⟨g, cp, e1, -, hcell⟩ := (HH.out.but hG (fun _ _ h => h) (fun _ h => h)).cellAt (fun e _ => twc_len e) hq
      simp only [Value.slice.injEq] at e1
      obtain ⟨rfl, -, rfl⟩ := e1
      have c3 : wr.cell? ⟨g, i * 2, none⟩ = some (.int .i64 qt) := hcell 0 _ rfl
      have HCW : Hid (∀ c u, (twc (qt, q))[c]? = some u → wr.cell? ((⟨g, i * 2, none⟩ : Addr).add c) = some u) := fun c u hc => by
        rw [addr_add]; exact hcell c u hc
      have HNX : Hid ((L.take (i + 1)).filter (fun p => !(p.1 == t)) = (L.take i).filter (fun p => !(p.1 == t)) ++ (if qt == t then [] else [(qt, q)])) := by
        show _ = _
        have hi := List.getElem?_eq_some_iff.1 hq
        rw [List.take_succ_eq_append_getElem hi.1, List.filter_append, hi.2]
        congr 1
        rw [List.filter_cons]
        cases (qt == t) <;> rfl
      clear hT hV hG hcell hq
      by_cases hk : qt = t
      · have hqi : (qt != t) = false := by simpa using hk
        have HN2 : Hid ((L.take (i + 1)).filter (fun p => !(p.1 == t)) = (L.take i).filter (fun p => !(p.1 == t))) := by show _ = _; rw [HNX.out, if_pos (by simpa using hk), List.append_nil]
        clear hk
        go_wp2
        exact ⟨⟨i + 1, r, by omega, by go_num, rfl, by rw [HN2.out]; exact HT.out, HV.out, HG.out⟩, by simp [intOf]; omega⟩
      · have hqi : (qt != t) = true := by simpa using hk
        have HN2 : Hid ((L.take (i + 1)).filter (fun p => !(p.1 == t)) = (L.take i).filter (fun p => !(p.1 == t)) ++ [(qt, q)]) := by show _ = _; rw [HNX.out, if_neg (by simpa using hk)]
        obtain ⟨F, hF⟩ : ∃ F, F = (L.take i).filter (fun p => !(p.1 == t)) := ⟨_, rfl⟩
        rw [← hF] at HT HN2
        have HFL : Hid (F.length ≤ 100000) := by
          show _ ≤ _
          have h5 : F.length ≤ (L.take i).length := by rw [hF]; exact List.length_filter_le _ _
          rw [List.length_take] at h5
          omega
        have HAL : Hid (Grow wr (wr.alloc (.cells #[.int .i64 qt, .int .i64 q] 74))) := (But.refl _ wr).alloc _
        have HBL : Hid (Blk (wr.alloc (.cells #[.int .i64 qt, .int .i64 q] 74)) wr.heap.size 74 (twc (qt, q))) := Blk.new (L := twc (qt, q)) rfl
        clear hk hF HNX
        go_wp2_with (first
          | (refine wpList_load_cells rfl _ _ rfl ⟨g, i * 2, none⟩ rfl (twc (qt, q)) _ HCW.out Try.underlying74 rfl iTw ?_)
          | (refine wpList_runH rfl (exec_row1 Try.underlying67 infTw (by decide) (by decide) rfl rfl rfl) ?_)
          | (refine wpList_someH rfl (exec_append (v := r) (n := F.length) (xs := F.flatMap twc) (news := twc (qt, q)) Try.underlying67 infTw rfl (by decide) rfl rfl (ownsRow_grow HT.out HAL.out) rfl rfl (fun j u hj => HBL.out.cells0 j u hj) (twc_one _) (by have := HFL.out; omega) (by decide)) ?_; intro v4 w4 hap)
          | fail)
        refine ⟨⟨i + 1, v4, by omega, by go_num, rfl, ?_, fun k hk => ?_, ?_⟩, by simp [intOf]; omega⟩
        · rw [HN2.out, List.length_append, List.length_singleton, List.flatMap_append, show ([(qt, q)] : List (Int × Int)).flatMap twc = twc (qt, q) by simp]
          exact hap.own
        · rcases hap.at' with e | e
          · exact HV.out k (by rw [← e]; exact hk)
          · rw [e] at hk
            have := Option.some.inj hk
            have := HG.out.size
            have := HAL.out.size
            omega
        · exact (HG.out.trans HAL.out).then hap.but (fun b hb e => by have := HV.out b e; omega)
    · have hlti : ¬ ((i : Int) < (n : Int)) := by omega
      have HE : Hid ((L.take i) = L) := List.take_of_length_le (by have := HN.out; omega)
      rw [HE.out] at HT
      obtain ⟨ra, rc, hr⟩ := own_sl HT.out
      subst hr
      clear hT hV hG
      go_wp2
      go_ret
      exact ⟨_, rfl, HT.out, HV.out, HG.out⟩
end
end Go.Proofs.Ytmlklmhochihbaa
/- frames: Put. -/
namespace Go.Proofs.Ytmlklmhochihbaa
open Go.RowKit Go.Maps

theorem put_nil (w : World) (K : Int) (v : Value) (q : Bool) : Calls Try.prog 16 #[.pointer none, .int .i64 K, v, .bool q] w fun e w' => e = .returned (.int .i64 5) ∧ w' = w := by
  go_enter Try.func16, Try.ntmps16
  go_wp2
  go_ret
  exact ⟨rfl, rfl⟩
section
variable {w w' : World} {own own' : Owner} {gt gr gf gp gh gm : Nat} {fb : Int → Nat} {PL : List (Int × Int)} {s s' : St} {R : Nat → Prop}
theorem FtTo.then {own2 : Owner} {W : World} (hE : Ext own own2) (hF : Fresh w own own2) (hb : But (Wr own) w W) (h : FtTo W own2 gt s w') : FtTo w own gt s w' := by
  obtain ⟨o, h1, h2, h3⟩ := h.ex
  refine ⟨⟨o, h1, hE.trans h2, fun b hne => ?_⟩, hb.then h.but (fun b hbl e => ?_)⟩
  · by_cases e : own2 b = own b
    · exact Nat.le_trans hb.size (h3 b (by rw [e]; exact hne))
    · exact hF b e
  · have : own2 b = own b := by
      by_cases e2 : own2 b = own b
      · exact e2
      · have := hF b e2; omega
    unfold Wr at e ⊢
    rw [this] at e; exact e
/-- Bytes are laid into a frame that is there. -/
theorem Fm.putTail {W1 : World} (h : Fm w own gt gr gf gp gh gm fb PL s) {e0 : FrE} (he0 : e0 ∈ s.fr) {v : Value} {xs : List Nat} (q : Bool) (hg : Grow w W1) (hv : Ow W1 w.heap.size v xs) (hl : xs.length ≤ 1000000) :
    FtTo w own gt { s with fr := St.laid s.fr e0.1 xs q } ((W1.setCell ⟨fb e0.1, 0, none⟩ v).setCell ⟨fb e0.1, 1, none⟩ (.bool (e0.2.2 || q))) := by
  have h1 := h.grow hg
  obtain ⟨u, hb, hu⟩ := h1.each e0 he0
  have k1 := But.set1 W1 (fb e0.1) 0 v
  have k2 := But.set1 (W1.setCell ⟨fb e0.1, 0, none⟩ v) (fb e0.1) 1 (.bool (e0.2.2 || q))
  have hge := hv.ge
  have hnf : ∀ j, v.ownBlock = some j → ¬ (j = fb e0.1) := fun j hj e => by
    have h2 := (hge j hj).1
    have h3 := h.top j h2
    rw [e, h.ofb e0 he0] at h3
    cases h3
  have hE : Ext own (tagV own v tByt) := Ext.tagV (fun k hk => .inl (h.top k (hge k hk).1))
  have hT : Top W1 (tagV own v tByt) := h1.top.tagV (fun k hk => (hge k hk).2)
  have h2 := h1.store he0 (own' := tagV own v tByt) (v := v) (b := xs) (wr := e0.2.2 || q) hE (hT.grow (k1.trans k2).size) (k1.trans k2) hl ((hb.set 0 v).set 1 (.bool (e0.2.2 || q))) (by
    refine ⟨hv.bs.but (k1.trans k2) (fun j hj _ => hnf j hj), fun _ j hj => tagV_own hj⟩)
  have e1 : ({ s with fr := s.fr.map (fun e => if e.1 == e0.1 then (e.1, xs, e0.2.2 || q) else e) } : St) = { s with fr := St.laid s.fr e0.1 xs q } := by
    congr 1
    unfold St.laid
    apply List.map_congr_left
    intro e he
    by_cases hq : e.1 = e0.1
    · rw [one_key h.ok.nd he he0 hq]
    · have : (e.1 == e0.1) = false := by simpa using hq
      simp [this]
  rw [e1] at h2
  refine ⟨⟨_, ⟨_, _, _, _, _, _, _, h2⟩, hE, (Fresh.refl _ _).tagV (fun k hk => .inl (hge k hk).1)⟩, ?_⟩
  exact (hg.mono (fun _ _ h => h.elim)).trans ((k1.trans k2).mono (fun b _ e => by rw [e]; exact h.wrF he0))
theorem St.put_has {K : Int} {xs : List Nat} {q : Bool} (hh : s.has K = true) : s.put K xs q = { s with fr := St.laid s.fr K xs q } := by unfold St.put; rw [if_pos hh]
theorem St.put_new {K : Int} {xs : List Nat} {q : Bool} (hh : s.has K = false) (hl : s.fr.length < s.most) : s.put K xs q = { s with fr := St.laid (s.fr ++ [(K, [], false)]) K xs q } := by
  unfold St.put
  rw [if_neg (by rw [hh]; decide), if_neg (by omega)]
  congr 1
  unfold St.laid
  rw [List.map_append]
  have e1 : s.fr.map (fun e : FrE => if e.1 == K then (e.1, xs, e.2.2 || q) else e) = s.fr := by
    rw [List.map_congr_left (g := id) (fun e he => by
      have : (e.1 == K) = false := by simpa using St.has_not.1 hh e he
      simp [this]), List.map_id]
  rw [e1]
  simp
set_option maxRecDepth 100000 in
set_option maxHeartbeats 1000000 in
theorem put_has (h : Ft w own gt s) {K : Int} (hK : i64 K) (hh : s.has K = true) {v : Value} {xs : List Nat} {q : Bool} (hv : Bs w v xs) (hl : xs.length ≤ 1000000) :
    Calls Try.prog 16 #[ptr gt, .int .i64 K, v, .bool q] w fun e w' => e = .returned (.int .i64 (s.putc K)) ∧ FtTo w own gt (s.put K xs q) w' := by
  rw [St.put_has hh]
  rw [show s.putc K = 0 by unfold St.putc; rw [hh]; rfl]
  obtain ⟨gr, gf, gp, gh, gm, fb, PL, h⟩ := h
  have HF := Hid.mk' (find_has h hK hh)
  have HC := Hid.mk' (clone_any hv (by omega))
  obtain ⟨e0, he0, rfl⟩ := St.has_iff.1 hh
  have HT : Hid (∀ W1 v1, Grow w W1 → Ow W1 w.heap.size v1 xs → FtTo w own gt { s with fr := St.laid s.fr e0.1 xs q } ((W1.setCell ⟨fb e0.1, 0, none⟩ v1).setCell ⟨fb e0.1, 1, none⟩ (.bool (e0.2.2 || q)))) := fun W1 v1 k1 k2 => h.putTail he0 q k1 k2 hl
  have HB : Hid (∀ W1, Grow w W1 → ∃ u, Blk W1 (fb e0.1) 89 (fcl u e0.2.2 (cnt PL e0.1))) := fun W1 k => by
    obtain ⟨u, h1, -⟩ := (h.grow k).each e0 he0
    exact ⟨u, h1⟩
  obtain ⟨ao, n, cap, rfl⟩ := hv.sl
  obtain ⟨S2, hS2⟩ : ∃ S2 : St, S2 = { s with fr := St.laid s.fr e0.1 xs q } := ⟨_, rfl⟩
  rw [← hS2] at HT ⊢
  generalize e0.1 = K at *
  generalize e0.2.2 = m at *
  generalize fb K = g at *
  generalize cnt PL K = c at *
  clear h hK hh hv hl he0 hS2
  go_enter Try.func16, Try.ntmps16
  go_wp2_with fail
  refine Calls.mono HF.out ?_
  rintro e w' ⟨rfl, hw⟩
  have h2 := hw.symm
  subst h2
  clear hw
  go_wp2_with fail
  refine Calls.mono HC.out ?_
  rintro e w1 ⟨v1, rfl, how, hbe⟩
  have hg1 : Grow w w1 := But.of hbe
  obtain ⟨u, hb⟩ := HB.out w1 hg1
  have HFIN := Hid.mk' (HT.out w1 v1 hg1 how)
  have c0 : w1.cell? ⟨g, 0, none⟩ = some u := hb.cell 0
  have f0 : w1.frozen? ⟨g, 0, none⟩ = false := hb.free 0
  have hb2 := hb.set 0 v1
  have c1 : (w1.setCell ⟨g, 0, none⟩ v1).cell? ⟨g, 1, none⟩ = some (.bool m) := hb2.cell 1
  have f1 : (w1.setCell ⟨g, 0, none⟩ v1).frozen? ⟨g, 1, none⟩ = false := hb2.free 1
  obtain ⟨ao3, n3, cap3, rfl⟩ := how.bs.sl
  clear how hbe hg1 hb hb2
  cases hm : m
  case true =>
    rw [hm] at c1 HFIN
    clear hm
    go_wp2
    go_ret
    exact ⟨rfl, HFIN.out⟩
  case false =>
    rw [hm] at c1 HFIN
    rw [Bool.false_or] at HFIN
    clear hm
    go_wp2
    go_ret
    exact ⟨rfl, HFIN.out⟩
end
end Go.Proofs.Ytmlklmhochihbaa
/- The reference's frames: Reserve, Free, Get. -/
namespace Go.Proofs.Ytmlklmhochihbaa
open Go.RowKit

theorem infSTw : (Try.prog.info? 67).map (·.size) = some 1 := by kernel_rfl
theorem infSFr : (Try.prog.info? 66).map (·.size) = some 1 := by kernel_rfl
theorem bld_tw (a b : Int) (w : World) : (Instr.build 74 #[(0, .int .i64 a), (1, .int .i64 b)]).run Try.prog w = .ok (.agg #[.int .i64 a, .int .i64 b]) w := run_build w _ _ _ (by kernel_rfl)
section
variable {w w' w1 : World} {ro ro' : Owner} {gx : Nat} {vl vp vs vh v' : Value} {FL FL' : List FrV} {s s' : St} {R : Nat → Prop}
set_option maxRecDepth 100000 in
set_option maxHeartbeats 2000000 in
theorem rxreserve_any (h : Rx w ro gx s) {t n : Int} (ht : i64 t) : Calls Try.prog 31 #[ptr gx, .int .i64 t, .int .i64 n] w fun e w' => e = .returned (.int .i64 (s.resc t n)) ∧ RxTo w ro gx (s.res t n) w' := by
  have hsm := h.same (But.refl _ w)
  have HLF := Hid.mk' (rxleft_any h)
  obtain ⟨vl, vp, vs, vh, FL, h⟩ := h
  have HH := Hid.mk' h
  have HTT := Hid.mk' ht
  by_cases h1 : n < 1
  · have hrc : s.resc t n = 1 := by unfold St.resc; rw [if_pos h1]
    have HS : Hid (RxTo w ro gx (s.res t n) w) := by unfold St.res; rw [hrc]; exact hsm
    rw [hrc]
    clear h hsm hrc ht
    go_enter Try.func31, Try.ntmps31
    go_wp2
    go_ret
    exact ⟨rfl, HS.out⟩
  obtain ⟨m, hm⟩ : ∃ m, m = s.sh.length := ⟨_, rfl⟩
  obtain ⟨ao, cap, e, -⟩ := h.rs.shape
  rw [← hm] at e
  subst e
  have c1 : w.cell? ⟨gx, 3, none⟩ = some (.slice ao m cap) := h.ht.blk.cell 3
  have hnb : (m : Int) ≤ 1024 := by have := h.small.2; omega
  have HN := Hid.mk' hm
  have HSM := Hid.mk' hsm
  obtain ⟨rc, hrc⟩ : ∃ rc, rc = s.resc t n := ⟨_, rfl⟩
  rw [← hrc]
  have HRC : Hid (rc = if s.held t then 6 else if s.left < n then 12 else 0) := by show _ = _; rw [hrc]; unfold St.resc; rw [if_neg h1]
  have HRE : Hid (s.res t n = if rc = 0 then { s with sh := s.sh ++ [(t, n)] } else s) := by show _ = _; rw [hrc]; rfl
  have HOK := Hid.mk' (h.ok.res (n := n) ht)
  clear h hm hsm ht hrc
  go_enter Try.func31, Try.ntmps31
  go_wp2
  go_loopw [7] (fun iv wr => ∃ i : Nat, i ≤ m ∧ iv = .int .i64 i ∧ (∀ j e, j < i → s.sh[j]? = some e → e.1 ≠ t) ∧ wr = w) (fun iv _ => m - (intOf iv).toNat)
  case atStart => exact ⟨0, Nat.zero_le _, rfl, fun j e hj => absurd hj (by omega), rfl⟩
  case round =>
    obtain ⟨i, hin, rfl, hne, rfl⟩ := hrel
    have HNE := Hid.mk' hne
    clear hne
    by_cases hlt : i < m
    · have hlti : (i : Int) < (m : Int) := by omega
      obtain ⟨⟨q, qn⟩, hq⟩ : ∃ e, s.sh[i]? = some e := ⟨_, List.getElem?_eq_getElem (by have := HN.out; omega)⟩
      obtain ⟨g, cp, e1, -, hcell⟩ := HH.out.rs.cellAt (fun e _ => twc_len e) hq
      simp only [Value.slice.injEq] at e1
      obtain ⟨rfl, -, rfl⟩ := e1
      have c3 : wr.cell? ⟨g, i * 2, none⟩ = some (.int .i64 q) := hcell 0 _ rfl
      have HQ := Hid.mk' hq
      clear hcell hq
      by_cases hk : q = t
      · have hkb : (q == t) = true := by simpa using hk
        have hrc : rc = 6 := by rw [HRC.out, if_pos (by unfold St.held; rw [List.any_eq_true]; exact ⟨_, List.mem_of_getElem? HQ.out, by simpa using hk⟩)]
        subst hrc
        have HFIN : Hid (RxTo wr ro gx (s.res t n) wr) := by rw [HRE.out, if_neg (by decide)]; exact HSM.out
        clear hk
        go_wp2
        go_ret
        exact ⟨rfl, HFIN.out⟩
      · have hkb : (q == t) = false := by simpa using hk
        have HST : Hid (∀ j e, j < i + 1 → s.sh[j]? = some e → e.1 ≠ t) := fun j e hj he => by
          by_cases e2 : j = i
          · subst e2
            rw [HQ.out] at he
            cases he
            exact hk
          · exact HNE.out j e (by omega) he
        clear hk
        go_wp2
        exact ⟨⟨i + 1, by omega, by go_num, HST.out, (by first | rfl | trivial)⟩, by simp [intOf]; omega⟩
    · have hlti : ¬ ((i : Int) < (m : Int)) := by omega
      have hheld : s.held t = false := by
        unfold St.held
        rw [List.any_eq_false]
        intro x hx
        obtain ⟨j, hj⟩ := List.getElem?_of_mem hx
        have := (List.getElem?_eq_some_iff.1 hj).1
        have := HNE.out j x (by have := HN.out; omega) hj
        simpa using this
      rw [hheld, if_neg (by decide)] at HRC
      by_cases hl : s.left < n
      · have hrc : rc = 12 := by rw [HRC.out, if_pos hl]
        subst hrc
        have HFIN : Hid (RxTo wr ro gx (s.res t n) wr) := by rw [HRE.out, if_neg (by decide)]; exact HSM.out
        generalize s.left = LF at *
        clear hheld
        go_wp2_with fail
        refine Calls.mono HLF.out ?_
        rintro e w' ⟨rfl, hw⟩
        have h2 := hw.symm
        subst h2
        clear hw
        go_wp2
        go_ret
        exact ⟨rfl, HFIN.out⟩
      · have hrc : rc = 0 := by rw [HRC.out, if_neg hl]
        subst hrc
        have HRE2 : Hid (s.res t n = { s with sh := s.sh ++ [(t, n)] }) := by show _ = _; rw [HRE.out]; exact if_pos rfl
        generalize s.left = LF at *
        clear hheld
        go_wp2_with fail
        refine Calls.mono HLF.out ?_
        rintro e w' ⟨rfl, hw⟩
        have h2 := hw.symm
        subst h2
        clear hw
        have HAL : Hid (Grow wr (wr.alloc (.cells #[.int .i64 t, .int .i64 n] 74))) := (But.refl _ wr).alloc _
        have HBL : Hid (Blk (wr.alloc (.cells #[.int .i64 t, .int .i64 n] 74)) wr.heap.size 74 (twc (t, n))) := Blk.new (L := twc (t, n)) rfl
        have hrs := HH.out.rs.own
        rw [← HN.out] at hrs
        have HRS := Hid.mk' hrs
        have HVE : Hid (¬ (Value.slice ao m cap).ownBlock = some gx) := fun e => by
          have := HH.out.rs.inF gx e
          rw [Is, HH.out.ox] at this
          cases this
        have HBK := Hid.mk' HH.out.ht.blk
        clear hrs
        go_wp2_with (first
          | (refine wpList_build_run rfl _ [_, _] rfl [(0, .int .i64 t), (1, .int .i64 n)] rfl _ (bld_tw t n _) ?_)
          | (refine wpList_runH rfl (exec_row1 Try.underlying67 infTw (by decide) (by decide) rfl rfl rfl) ?_)
          | (refine wpList_someH rfl (exec_append (v := .slice ao m cap) (n := m) (xs := s.sh.flatMap twc) (news := twc (t, n)) Try.underlying67 infTw rfl (by decide) rfl rfl (ownsRow_grow HRS.out HAL.out) rfl rfl (fun j u hj => HBL.out.cells0 j u hj) (twc_one _) (by omega) (by decide)) ?_; intro v4 w4 hap; obtain ⟨a4, z4, e4⟩ := own_sl hap.own; subst e4; have d4 : w4.cell? ⟨gx, 3, none⟩ = some (.slice ao m cap) := ((HBK.out.but HAL.out (fun h => h)).but hap.but HVE.out).cell 3; have f4 : w4.frozen? ⟨gx, 3, none⟩ = false := ((HBK.out.but HAL.out (fun h => h)).but hap.but HVE.out).free 3)
          | fail)
        have hap' : Appd (wr.alloc (.cells #[.int .i64 t, .int .i64 n] 74)) w4 74 2 (.slice ao m cap) (.slice a4 (m + 1) z4) (m + 1) (s.sh.flatMap twc ++ twc (t, n)) := hap
        have HFIN : Hid (RxTo wr ro gx (s.res t n) (w4.setCell ⟨gx, 3, none⟩ (.slice a4 (m + 1) z4))) := by
          rw [HRE2.out]
          have hok := HOK.out
          rw [HRE2.out] at hok
          have hrow : w4.ownsRow 0 74 2 (.slice a4 (m + 1) z4) (s.sh ++ [(t, n)]).length ((s.sh ++ [(t, n)]).flatMap twc) := by
            rw [show (s.sh ++ [(t, n)]).length = m + 1 by rw [List.length_append, ← HN.out]; rfl, show (s.sh ++ [(t, n)]).flatMap twc = s.sh.flatMap twc ++ twc (t, n) by simp]
            exact hap'.own
          have hin' := HH.out.rs.inF
          obtain ⟨g1, g2, g3⟩ := HH.out.setS (R := fun b => (Value.slice ao m cap).ownBlock = some b) ((HAL.out.mono (fun _ _ h => h.elim)).trans hap'.but) (fun b e => hin' b e) hrow (fun k hk => by
            rcases hap'.at' with e | e
            · exact .inr (hin' k (by rw [← e]; exact hk))
            · rw [e] at hk
              have := Option.some.inj hk
              have := HAL.out.size
              exact .inl (by omega)) hok
          exact g1.to g2 g3
        clear hap hap'
        go_ret
        exact ⟨rfl, HFIN.out⟩
set_option maxRecDepth 100000 in
set_option maxHeartbeats 2000000 in
theorem rxfree_any (h : Rx w ro gx s) {t : Int} : Calls Try.prog 32 #[ptr gx, .int .i64 t] w fun e w' => e = .returned (.tuple #[]) ∧ RxTo w ro gx (s.free t) w' := by
  obtain ⟨vl, vp, vs, vh, FL, h⟩ := h
  have HH := Hid.mk' h
  have HW1 := Hid.mk' (rxwithout_any h.rs (by have := h.small.2; omega) t)
  have c3 : w.cell? ⟨gx, 3, none⟩ = some vs := h.ht.blk.cell 3
  have hf := h.ok.free t
  have HOK1 : Hid (Sok { s with sh := s.sh.filter (fun p => !(p.1 == t)) }) := ⟨h.ok.m1, h.ok.m2, h.ok.nd, h.ok.le, h.ok.ik, h.ok.pk, hf.tn, hf.sk, hf.sl⟩
  have HOK2 := Hid.mk' hf
  obtain ⟨sa, sc, e, -⟩ := h.rs.shape
  subst e
  clear h hf
  go_enter Try.func32, Try.ntmps32
  go_wp2_with fail
  refine Calls.mono HW1.out ?_
  rintro e w1 ⟨v1, rfl, hrow, hnew, hg⟩
  obtain ⟨g1, g2, g3⟩ := HH.out.setS (R := fun _ => False) hg (fun _ h => h.elim) hrow (fun k hk => .inl (hnew k hk)) HOK1.out
  have hbk := HH.out.ht.blk.but hg (fun h => h)
  have d3 : w1.cell? ⟨gx, 3, none⟩ = some (.slice sa s.sh.length sc) := hbk.cell 3
  have f3 : w1.frozen? ⟨gx, 3, none⟩ = false := hbk.free 3
  obtain ⟨a1, b1, e1⟩ := own_sl hrow
  subst e1
  have HG2 := Hid.mk' g2
  have HG3 := Hid.mk' g3
  have HW2 := Hid.mk' (rxwithout_any g1.rp (by have := g1.pl; exact this) t)
  have HM1 := Hid.mk' g1
  obtain ⟨pa, pc, e2, -⟩ := g1.rp.shape
  subst e2
  have d2 : (w1.setCell ⟨gx, 3, none⟩ (.slice a1 (s.sh.filter (fun p => !(p.1 == t))).length b1)).cell? ⟨gx, 2, none⟩ = some (.slice pa s.pins.length pc) := g1.ht.blk.cell 2
  obtain ⟨W1, hW1⟩ : ∃ W1, W1 = w1.setCell ⟨gx, 3, none⟩ (.slice a1 (s.sh.filter (fun p => !(p.1 == t))).length b1) := ⟨_, rfl⟩
  rw [← hW1] at d2 HG3 HW2 HM1
  have HWE := Hid.mk' hW1.symm
  clear g1 g2 g3 hrow hnew hg hbk HW1 HH hW1 c3
  go_upto_region 1 with fail
  rw [HWE.out]
  clear d3 f3
  go_wp2_with fail
  refine Calls.mono HW2.out ?_
  rintro e w2 ⟨v2, rfl, hrow, hnew, hg⟩
  obtain ⟨g1, g2, g3⟩ := HM1.out.setP (R := fun _ => False) hg (fun _ h => h.elim) hrow (fun k hk => .inl (hnew k hk)) HOK2.out (Nat.le_trans (List.length_filter_le _ _) HM1.out.pl)
  have hbk := HM1.out.ht.blk.but hg (fun h => h)
  have d3 : w2.cell? ⟨gx, 2, none⟩ = some (.slice pa s.pins.length pc) := hbk.cell 2
  have f3 : w2.frozen? ⟨gx, 2, none⟩ = false := hbk.free 2
  obtain ⟨a2, b2, e2⟩ := own_sl hrow
  subst e2
  have HFIN : Hid (RxTo w ro gx (s.free t) (w2.setCell ⟨gx, 2, none⟩ (.slice a2 (s.pins.filter (fun p => !(p.1 == t))).length b2))) := RxTo.step HG2.out HG3.out (g1.to g2 g3)
  clear g1 g2 g3 hrow hnew hg hbk HW2 HM1 d2
  go_wp2
  go_end0
  exact ⟨rfl, HFIN.out⟩
theorem St.touch_eq {K : Int} {y : Nat} : s.touch K y = { s with now := s.now + 1, hl := touched 16 s.now s.hl K y } := rfl
set_option maxRecDepth 100000 in
set_option maxHeartbeats 2000000 in
theorem rxget_not (h : Rx w ro gx s) {K : Int} (hh : s.has K = false) : Calls Try.prog 35 #[ptr gx, .int .i64 K] w fun e w' => e = .returned (.tuple #[.slice none 0 0, .int .i64 5]) ∧ w' = w := by
  have HA := Hid.mk' (rxat_any h K)
  clear h
  go_enter Try.func35, Try.ntmps35
  go_wp2_with fail
  refine Calls.mono HA.out ?_
  rintro e w1 ⟨hw, ⟨i, e0, h1, h2, rfl⟩ | ⟨-, rfl⟩⟩
  · exfalso
    have : s.has K = true := St.has_iff.2 ⟨e0, List.mem_of_getElem? h1, h2⟩
    rw [hh] at this
    cases this
  · have h2 := hw.symm
    subst h2
    clear hw hh
    go_wp2
    exact bodyPost_ret (results_tmp2 rfl _ _ _) rfl ⟨rfl, rfl⟩
set_option maxRecDepth 100000 in
set_option maxHeartbeats 2000000 in
theorem rxget_has (h : Rx w ro gx s) {K : Int} (hK : i64 K) (hh : s.has K = true) (hn : s.now < 1000000) : Calls Try.prog 35 #[ptr gx, .int .i64 K] w fun e w' => ∃ v, e = .returned (.tuple #[v, .int .i64 0]) ∧ Ow w' w.heap.size v (s.bytes K) ∧ RxTo w ro gx (s.touch K oneF) w' := by
  have HA := Hid.mk' (rxat_any h K)
  obtain ⟨vl, vp, vs, vh, FL, h⟩ := h
  have HT := Hid.mk' (frtouch_any h.ht hK (y := oneF) hn)
  have HH := Hid.mk' h
  clear h hK hn
  go_enter Try.func35, Try.ntmps35
  go_wp2_with fail
  refine Calls.mono HA.out ?_
  rintro e w1 ⟨hw, ⟨i, e0, h1, h2, rfl⟩ | ⟨h1, rfl⟩⟩
  · have h3 := hw.symm
    subst h3
    obtain ⟨⟨e1, qv⟩, hq⟩ : ∃ x, FL[i]? = some x := ⟨_, List.getElem?_eq_getElem (by rw [HH.out.lenL]; exact (List.getElem?_eq_some_iff.1 h1).1)⟩
    have he : e1 = e0 := by
      rw [← HH.out.fl, List.getElem?_map, hq] at h1
      simpa using h1
    subst he
    have hbt := HH.out.bt _ (List.mem_of_getElem? hq)
    have hby := (St.at_mark HH.out.ok (List.mem_of_getElem? h1)).2
    rw [h2] at hby
    have hil : i < FL.length := (List.getElem?_eq_some_iff.1 hq).1
    have hii : ¬ ((i : Int) < 0) := by omega
    have HQ := Hid.mk' hq
    have HBT := Hid.mk' hbt
    have HBY := Hid.mk' hby
    have HBL : Hid (e1.2.1.length ≤ 1000000) := (HH.out.ok.ik e1 (List.mem_of_getElem? h1)).2
    have HIL := Hid.mk' hil
    clear hw h1 h2 hq hbt hby hil hh HA
    go_wp2_with fail
    refine Calls.mono HT.out ?_
    rintro e w2 ⟨rfl, hto⟩
    have hrx := HH.out.setH hto
    have HRX := Hid.mk' hrx
    have kb := hto.but
    obtain ⟨v2, hf2, -⟩ := hto.ex
    have hrl := HH.out.rl.but kb (fun j hj e => by rw [e, Is, HH.out.ox] at hj; cases hj) (fun _ h => h)
    obtain ⟨g, cp, hvl, -, hcell⟩ := hrl.cellAt (fun e _ => fxc_len e) HQ.out
    subst hvl
    have hbs2 := HBT.out.but kb (fun j hj e => by rw [e, Is, HH.out.ox] at hj; cases hj)
    obtain ⟨qa, qn, qc, e5⟩ := hbs2.1.sl
    have e5' : qv = .slice qa qn qc := e5
    subst e5'
    have d1 : w2.cell? ⟨gx, 1, none⟩ = some (.slice (some ⟨g, 0, none⟩) FL.length cp) := hf2.blk.cell 1
    have d3 : w2.cell? ⟨g, i * 3 + 1, none⟩ = some (.slice qa qn qc) := hcell 1 _ rfl
    have hlen : (i : Int) < (FL.length : Int) := by have := HIL.out; omega
    have HC := Hid.mk' (copy_any hbs2.1 (by have := HBL.out; omega))
    have HSZ := Hid.mk' kb.size
    clear hto hrx kb hf2 hrl hcell hbs2 HT e5
    go_wp2_with fail
    refine Calls.mono HC.out ?_
    rintro e w3 ⟨v3, rfl, how, hbe⟩
    have HFIN : Hid (Ow w3 w.heap.size v3 (s.bytes K) ∧ RxTo w ro gx (s.touch K oneF) w3) := by
      rw [HBY.out]
      exact ⟨how.mono HSZ.out, HRX.out.grow (But.of hbe)⟩
    obtain ⟨ra, rn, rc, rfl⟩ := how.bs.sl
    clear how hbe
    go_wp2
    exact bodyPost_ret (results_tmp2 rfl _ _ _) rfl ⟨_, rfl, HFIN.out⟩
  · rw [hh] at h1
    cases h1
end
end Go.Proofs.Ytmlklmhochihbaa
/- frames: Put, of a key that is in no frame. -/
namespace Go.Proofs.Ytmlklmhochihbaa
open Go.RowKit Go.Maps

section
variable {w w' : World} {own own' : Owner} {gt gr gf gp gh gm : Nat} {fb : Int → Nat} {PL : List (Int × Int)} {s s' : St} {R : Nat → Prop}
theorem Fm.lenRun (h : Fm w own gt gr gf gp gh gm fb PL s) (ty : TypeId) : (Builtin.len_ #[82] ty #[.map (some gf)]).run Try.prog w = .ok (.int .i64 (s.fr.length : Int)) w := by
  have := h.frm.len (t := 82) (et := 86) Try.underlying82 h.kd ty
  rw [show s.keys.length = s.fr.length by unfold St.keys; rw [List.length_map]] at this
  exact this
/-- A frame that was empty. -/
theorem Fm.add {W : World} {g : Nat} (h : Fm w own gt gr gf gp gh gm fb PL s) {K : Int} (hK : i64 K) (hh : s.has K = false) (hl : s.fr.length < s.most) (hg : g = w.heap.size) (k : But (· = gf) w W)
    (hb : Blk W g 89 (fcl (.slice none 0 0) false 0)) (hm : MapOf 3 W gf iv (fun j => ptr (if j = K then g else fb j)) (s.keys ++ [K])) :
    Fm W (tagAt own g (tFr K)) gt gr gf gp gh gm (fun j => if j = K then g else fb j) PL { s with fr := s.fr ++ [(K, [], false)] } := by
  have hgn : own g = .none := h.top g (by omega)
  have ne : ∀ b t, own b = t → t ≠ .map → ¬ (b = gf) := fun b t e h1 e2 => by rw [e2, h.ogf] at e; exact h1 e.symm
  have hE : Ext own (tagAt own g (tFr K)) := Ext.tagAt (.inl hgn)
  have tg : ∀ {b : Nat} {t : Tag}, own b = t → t ≠ .none → tagAt own g (tFr K) b = t := fun {b t} h1 h2 => (hE b (by rw [h1]; exact h2)).trans h1
  have hne : ∀ e ∈ s.fr, e.1 ≠ K := St.has_not.1 hh
  have hok := h.ok.put (k := K) (b := []) (wr := false) hK (by simp)
  unfold St.put at hok
  rw [if_neg (by rw [hh]; decide), if_neg (by omega)] at hok
  have hc0 : cnt PL K = 0 := by
    have h1 := h.pinned K
    rw [St.pinned_none h.ok hh] at h1
    have := of_decide_eq_false h1
    omega
  refine ⟨h.blk.but k (ne _ _ h.ot (by decide)), h.res.but k (ne _ _ h.ort (by decide)), ?_, h.pin.but k (ne _ _ h.ogp (by decide)), h.pnd, h.pmem, fun e he => ?_,
    h.ht.but k (ne _ _ h.ogh (by decide)) (ne _ _ h.ogm (by decide)), tg h.ot (by decide), tg h.ort (by decide), tg h.ogf (by decide), tg h.ogp (by decide), tg h.ogh (by decide), tg h.ogm (by decide), fun e he => ?_, hok, h.pl, ?_⟩
  · show MapOf _ _ _ _ _ ((s.fr ++ [(K, [], false)]).map (fun e : FrE => e.1))
    rw [List.map_append]
    exact hm
  · rcases List.mem_append.1 he with he | he
    · obtain ⟨v, h1, h2⟩ := h.each e he
      rw [if_neg (hne e he)]
      refine ⟨v, h1.but k (ne _ _ (h.ofb e he) (fun e => nomatch e)), ?_⟩
      have h3 := h2.but k (fun j hj => ne _ _ hj (fun e => nomatch e))
      exact ⟨h3.1, fun h0 j hj => tg (h3.2 h0 j hj) (fun e => nomatch e)⟩
    · rw [show e = (K, [], false) by simpa using he, if_pos rfl, hc0]
      exact ⟨_, hb, Bs.nil _, fun h0 => absurd h0 (by simp)⟩
  · rcases List.mem_append.1 he with he | he
    · rw [if_neg (hne e he)]
      exact tg (h.ofb e he) (fun e => nomatch e)
    · rw [show e = (K, [], false) by simpa using he, if_pos rfl]
      exact tagAt_own
  · exact (h.top.grow k.size).tagAt hb.lt
theorem bld_fr (w : World) : (Instr.build 89 #[]).run Try.prog w = .ok (.agg #[.slice none 0 0, .bool false, .int .i64 0]) w := by kernel_rfl
set_option maxRecDepth 100000 in
set_option maxHeartbeats 1000000 in
theorem put_full (h : Ft w own gt s) {K : Int} (hK : i64 K) (hh : s.has K = false) (hf : s.most ≤ s.fr.length) {v : Value} {xs : List Nat} {q : Bool} :
    Calls Try.prog 16 #[ptr gt, .int .i64 K, v, .bool q] w fun e w' => e = .returned (.int .i64 (s.putc K)) ∧ FtTo w own gt (s.put K xs q) w' := by
  have hsm := fun w' (k : Grow w w') => h.same k
  obtain ⟨gr, gf, gp, gh, gm, fb, PL, h⟩ := h
  have HF := Hid.mk' (find_not h hK hh)
  have HS : Hid (∀ w', Grow w w' → FtTo w own gt (s.put K xs q) w') := fun w' k => by unfold St.put; rw [if_neg (by rw [hh]; decide), if_pos hf]; exact hsm w' k
  rw [show s.putc K = 11 by unfold St.putc; rw [hh, if_neg (by decide), if_pos hf]]
  have HLEN : Hid (∀ w', Grow w w' → ∀ ty, (Builtin.len_ #[82] ty #[.map (some gf)]).run Try.prog w' = .ok (.int .i64 (s.fr.length : Int)) w') := fun w' k ty => (h.grow k).lenRun ty
  have HBK := Hid.mk' h.blk
  have hmi : (s.most : Int) ≤ (s.fr.length : Int) := by omega
  generalize hlf : s.left = L at *
  generalize hnn : s.fr.length = n at *
  generalize hmm : s.most = m at *
  clear h hK hh hf hsm hlf hnn hmm
  go_enter Try.func16, Try.ntmps16
  go_wp2_with fail
  refine Calls.mono HF.out ?_
  rintro e w' ⟨rfl, hw⟩
  have h2 := hw.symm
  subst h2
  clear hw
  go_upto_region 5 with fail
  refine region_chain [] [0, 1, 2, 3, 4, 5, 6, 7, 8, 9] (Grow w) (Grow w) (by kernel_rfl) (by kernel_rfl) (fun _ _ h k => h.trans k) (fun _ h => h) ((But.refl _ w).drew) ?_
  intro ι hne X hX
  have d0 : ∀ x, (X x).cell? ⟨gt, 0, none⟩ = some (.int .i64 (m : Int)) := fun x => (HBK.out.but (hX x) (fun h => h)).cell 0
  have d3 : ∀ x, (X x).cell? ⟨gt, 3, none⟩ = some (.map (some gf)) := fun x => (HBK.out.but (hX x) (fun h => h)).cell 3
  iterate 4 (refine still_step rfl (fun K hK => ?_); go_simp; refine hK _ ?_; clear hK K)
  refine still_val rfl (.int .i64 (n : Int)) rfl (fun z => exec_lenM rfl rfl (HLEN.out _ (hX z) _)) ?_
  intro K hK; go_simp; refine hK _ ?_; clear hK K
  iterate 5 (refine still_step rfl (fun K hK => ?_); go_simp; refine hK _ ?_; clear hK K)
  refine still_nil ?_
  clear hX hne d0 d3
  intro w2 hw2
  have HW2 := Hid.mk' (HS.out w2 hw2)
  clear hw2
  go_wp2
  go_ret
  exact ⟨rfl, HW2.out⟩
set_option maxRecDepth 100000 in
set_option maxHeartbeats 1000000 in
theorem put_new (h : Ft w own gt s) {K : Int} (hK : i64 K) (hh : s.has K = false) (hf : s.fr.length < s.most) {v : Value} {xs : List Nat} {q : Bool} (hv : Bf w (fun j => own j = .none) v xs) (hl : xs.length ≤ 1000000) :
    Calls Try.prog 16 #[ptr gt, .int .i64 K, v, .bool q] w fun e w' => e = .returned (.int .i64 (s.putc K)) ∧ FtTo w own gt (s.put K xs q) w' := by
  rw [St.put_new hh hf]
  rw [show s.putc K = 0 by unfold St.putc; rw [hh, if_neg (by decide), if_neg (by omega)]]
  obtain ⟨gr, gf, gp, gh, gm, fb, PL, h⟩ := h
  have HF := Hid.mk' (find_not h hK hh)
  have HLEN : Hid (∀ w', Grow w w' → ∀ ty, (Builtin.len_ #[82] ty #[.map (some gf)]).run Try.prog w' = .ok (.int .i64 (s.fr.length : Int)) w') := fun w' k ty => (h.grow k).lenRun ty
  have HBK := Hid.mk' h.blk
  have hmi : ¬ ((s.most : Int) ≤ (s.fr.length : Int)) := by omega
  obtain ⟨S2, hS2⟩ : ∃ S2 : St, S2 = { s with fr := St.laid (s.fr ++ [(K, [], false)]) K xs q } := ⟨_, rfl⟩
  rw [← hS2]
  -- from a world that only grew: the frame is made, the key put, then bytes are laid
  have HA : Hid (∀ w1, Grow w w1 → ∃ W, (Instr.mapUpdate 82 (.map (some gf)) (.int .i64 K) (ptr w1.heap.size)).run Try.prog (w1.alloc (.cells #[.slice none 0 0, .bool false, .int .i64 0] 89)) = .ok () W ∧ Blk (w1.alloc (.cells #[.slice none 0 0, .bool false, .int .i64 0] 89)) gt 85 (tcl s.most s.left gr gf gp gh) ∧ Bs W v xs ∧
      ∀ W1 v1, Grow W W1 → Ow W1 W.heap.size v1 xs → (∃ u, Blk W1 w1.heap.size 89 (fcl u false 0)) ∧ FtTo w own gt S2 ((W1.setCell ⟨w1.heap.size, 0, none⟩ v1).setCell ⟨w1.heap.size, 1, none⟩ (.bool q))) := fun w1 k0 => by
    have h0 := h.grow k0
    have ka : Grow w1 (w1.alloc (.cells #[.slice none 0 0, .bool false, .int .i64 0] 89)) := (But.refl _ w1).alloc _
    have hbn : Blk (w1.alloc (.cells #[.slice none 0 0, .bool false, .int .i64 0] 89)) w1.heap.size 89 (fcl (.slice none 0 0) false 0) := Blk.new (L := fcl (.slice none 0 0) false 0) rfl
    generalize w1.alloc (.cells #[.slice none 0 0, .bool false, .int .i64 0] 89) = w2 at *
    have h2 := h0.grow ka
    obtain ⟨g, hg⟩ : ∃ g, g = w1.heap.size := ⟨_, rfl⟩
    rw [← hg] at hbn ⊢
    have hne : ∀ x ∈ s.keys, x ≠ K := fun x hx e => by
      have : s.has K = true := hasK_keys.2 (by rw [← e]; exact hx)
      rw [hh] at this; cases this
    have hm0 := h2.frm.congr (vv' := fun j => ptr (if j = K then g else fb j)) (fun x hx => by rw [if_neg (hne x hx)])
    obtain ⟨W, hr, hm, hb, hsz⟩ := hm0.put (t := 82) (et := 86) keyIa Try.underlying82 K (keyOfIa K hK) (fun y hy e => hne y hy (iv_inj e))
    rw [if_pos rfl] at hr
    have hgn : own g = .none := h0.top g (by omega)
    have hgf : ¬ (g = gf) := fun e => by rw [e, h.ogf] at hgn; cases hgn
    have kW : But (· = gf) w1 W := (ka.mono (fun _ _ h => h.elim)).trans hb
    have hadd := h0.add hK hh hf hg kW (hbn.but hb hgf) hm
    have hvW : Bs W v xs := by
      have hv1 := hv.but k0 (fun _ _ h => h)
      exact (hv1.but kW (fun j hj e => by rw [e, h.ogf] at hj; cases hj)).1
    refine ⟨W, hr, h2.blk, hvW, fun W1 v1 k1 k2 => ?_⟩
    have he0 : ((K, [], false) : FrE) ∈ ({ s with fr := s.fr ++ [(K, [], false)] } : St).fr := List.mem_append_right _ List.mem_cons_self
    constructor
    · obtain ⟨u, hu, -⟩ := (hadd.grow k1).each _ he0
      have e1 : (if ((K, [], false) : FrE).1 = K then g else fb ((K, [], false) : FrE).1) = g := if_pos rfl
      have hc0 : cnt PL K = 0 := by
        have h1 := h.pinned K
        rw [St.pinned_none h.ok hh] at h1
        have := of_decide_eq_false h1
        omega
      rw [e1] at hu
      simp only [hc0] at hu
      exact ⟨u, hu⟩
    · have ht := hadd.putTail he0 q k1 k2 hl
      rw [if_pos rfl, Bool.false_or] at ht
      rw [hS2]
      refine FtTo.then (own2 := tagAt own g (tFr K)) (W := W) (Ext.tagAt (.inl hgn)) ((Fresh.refl _ _).tagAt (.inl (by rw [hg]; exact k0.size))) ((k0.mono (fun _ _ h => h.elim)).trans (kW.mono (fun b _ e => ?_))) ht
      rw [e, Wr, h.ogf]; exact ⟨by decide, by decide⟩
  have HLN : Hid (xs.length ≤ 140737488355328) := by show _ ≤ _; omega
  obtain ⟨ao, nn, cap, rfl⟩ := hv.1.sl
  generalize hlf : s.left = L at *
  generalize hnn : s.fr.length = n at *
  generalize hmm : s.most = m at *
  clear h hK hh hf hlf hnn hmm hv hl hS2
  go_enter Try.func16, Try.ntmps16
  go_wp2_with fail
  refine Calls.mono HF.out ?_
  rintro e w' ⟨rfl, hw⟩
  have h2 := hw.symm
  subst h2
  clear hw
  go_upto_region 5 with fail
  refine region_chain [] [0, 1, 2, 3, 4, 5, 6, 7, 8, 9] (Grow w) (Grow w) (by kernel_rfl) (by kernel_rfl) (fun _ _ h k => h.trans k) (fun _ h => h) ((But.refl _ w).drew) ?_
  intro ι hne X hX
  have d0 : ∀ x, (X x).cell? ⟨gt, 0, none⟩ = some (.int .i64 (m : Int)) := fun x => (HBK.out.but (hX x) (fun h => h)).cell 0
  have d3 : ∀ x, (X x).cell? ⟨gt, 3, none⟩ = some (.map (some gf)) := fun x => (HBK.out.but (hX x) (fun h => h)).cell 3
  iterate 4 (refine still_step rfl (fun K hK => ?_); go_simp; refine hK _ ?_; clear hK K)
  refine still_val rfl (.int .i64 (n : Int)) rfl (fun z => exec_lenM rfl rfl (HLEN.out _ (hX z) _)) ?_
  intro K hK; go_simp; refine hK _ ?_; clear hK K
  iterate 5 (refine still_step rfl (fun K hK => ?_); go_simp; refine hK _ ?_; clear hK K)
  refine still_nil ?_
  clear hX hne d0 d3
  intro w2 hw2
  obtain ⟨W, hr, hbt, hvW, hrest⟩ := HA.out w2 hw2
  have HPUT := Hid.mk' hr
  have HREST := Hid.mk' hrest
  have HCL := Hid.mk' (clone_any hvW HLN.out)
  have e3 : (w2.alloc (.cells #[.slice none 0 0, .bool false, .int .i64 0] 89)).cell? ⟨gt, 3, none⟩ = some (.map (some gf)) := hbt.cell 3
  clear hw2 hr hrest hvW hbt HA
  go_wp2_with (first
    | (refine wpList_skipH rfl (exec_mapUpdate rfl rfl rfl rfl HPUT.out) ?_)
    | fail)
  refine Calls.mono HCL.out ?_
  rintro e w4 ⟨v4, rfl, how, hbe⟩
  have hg4 : Grow W w4 := But.of hbe
  obtain ⟨⟨u, hb⟩, hfin⟩ := HREST.out w4 v4 hg4 how
  have HFIN := Hid.mk' hfin
  have c0 : w4.cell? ⟨w2.heap.size, 0, none⟩ = some u := hb.cell 0
  have f0 : w4.frozen? ⟨w2.heap.size, 0, none⟩ = false := hb.free 0
  have hb2 := hb.set 0 v4
  have c1 : (w4.setCell ⟨w2.heap.size, 0, none⟩ v4).cell? ⟨w2.heap.size, 1, none⟩ = some (.bool false) := hb2.cell 1
  have f1 : (w4.setCell ⟨w2.heap.size, 0, none⟩ v4).frozen? ⟨w2.heap.size, 1, none⟩ = false := hb2.free 1
  obtain ⟨ao3, n3, cap3, rfl⟩ := how.bs.sl
  clear how hbe hg4 hb hb2 hfin
  go_wp2
  go_ret
  exact ⟨rfl, HFIN.out⟩
end
end Go.Proofs.Ytmlklmhochihbaa
/- The reference's frames: Put. -/
namespace Go.Proofs.Ytmlklmhochihbaa
open Go.RowKit

theorem infFr : (Try.prog.info? 65).map (fun i => (i.zero, i.size, i.bytes)) = some (some (.agg #[.int .i64 0, .slice none 0 0, .bool false]), 3, 40) := by kernel_rfl
theorem infB1 : (Try.prog.info? 31).map (·.size) = some 1 := by kernel_rfl
theorem infBl : (Try.prog.info? 4).map (·.size) = some 1 := by kernel_rfl
theorem bld_fx (k : Int) (q : Bool) (a : Option Addr) (n c : Nat) (w : World) : (Instr.build 65 #[(0, .int .i64 k), (1, .slice a n c), (2, .bool q)]).run Try.prog w = .ok (.agg #[.int .i64 k, .slice a n c, .bool q]) w := run_build w _ _ _ (by kernel_rfl)
theorem fxc_one {w : World} {G : Nat → Prop} {e : FrV} (h : Bf w G e.2 e.1.2.1) : ∀ u ∈ fxc e, u.oneCell' = true := by
  intro u hu
  unfold fxc at hu
  have := h.1.one
  simp only [List.mem_cons, List.not_mem_nil, or_false] at hu
  rcases hu with rfl | rfl | rfl <;> first | rfl | exact this
section
variable {w w' w1 : World} {ro ro' : Owner} {gx : Nat} {vl vp vs vh v' : Value} {FL FL' : List FrV} {s s' : St} {R : Nat → Prop}
theorem RxM.ext (h : RxM w ro gx vl vp vs vh FL s) (hx : Ext ro ro') (top : Top w ro') : RxM w ro' gx vl vp vs vh FL s :=
  ⟨h.ht, ⟨h.rl.own, fun k hk => hx.is (by decide) k (h.rl.inF k hk)⟩, h.fl, fun e he => ⟨(h.bt e he).1, fun h0 j hj => hx.is (t := tByt) (fun e => nomatch e) j ((h.bt e he).2 h0 j hj)⟩, ⟨h.rp.own, fun k hk => hx.is (by decide) k (h.rp.inF k hk)⟩, ⟨h.rs.own, fun k hk => hx.is (by decide) k (h.rs.inF k hk)⟩, fun j hj => hx.is (by decide) j (h.oh j hj), hx.is (by decide) _ h.ox, h.ok, h.pl, top⟩
/-- New bytes are tagged. -/
theorem RxM.tagB {xs : List Nat} (h : RxM w ro gx vl vp vs vh FL s) (k : Grow w w1) (hv : Ow w1 w.heap.size v' xs) : RxM w1 (tagV ro v' tByt) gx vl vp vs vh FL s ∧ Fresh w ro (tagV ro v' tByt) ∧ Bf w1 (Is (tagV ro v' tByt) tByt) v' xs := by
  obtain ⟨hx, hf⟩ := tagF (v' := v') (T := tByt) h.top (fun j hj => .inl (hv.ge j hj).1)
  exact ⟨(h.grow k).ext hx ((h.top.grow k.size).tagV (fun j hj => own_lt hv.own hj)), hf, hv.bs, fun _ j hj => tagV_own hj⟩
/-- Frames written into where they are. -/
theorem RxM.inL {fr : List FrE} (h : RxM w ro gx vl vp vs vh FL s) (k : But R w w') (hR : ∀ b, R b → ro b = .sto) (hrow : w'.ownsRow 0 65 3 vl FL'.length (FL'.flatMap fxc)) (hfl : FL'.map (·.1) = fr) (hbt : ∀ e ∈ FL', Bf w' (Is ro tByt) e.2 e.1.2.1) (hok : Sok { s with fr := fr }) :
    RxM w' ro gx vl vp vs vh FL' { s with fr := fr } :=
  ⟨h.ht.but k (neR hR h.ox (by decide)) (fun j hj => neR hR (h.oh j hj) (by decide)), ⟨hrow, h.rl.inF⟩, hfl, hbt, h.rp.but k (fun j hj => neR hR hj (by decide)) (fun _ h => h), h.rs.but k (fun j hj => neR hR hj (by decide)) (fun _ h => h), h.oh, h.ox, hok, h.pl, h.top.grow k.size⟩
/-- One frame of the row is another one. -/
theorem RxM.lay {g i c cap : Nat} {x y : FrV} {u : Value} {fr : List FrE} (h : RxM w ro gx (.slice (some ⟨g, 0, none⟩) FL.length cap) vp vs vh FL s) (hi : FL[i]? = some x) (hc : c < 3) (hy : fxc y = (fxc x).set c u) (hb : Bf w (Is ro tByt) y.2 y.1.2.1) (hfr : s.fr.set i y.1 = fr) (hok : Sok { s with fr := fr }) :
    RxM (w.setCell ⟨g, i * 3 + c, none⟩ u) ro gx (.slice (some ⟨g, 0, none⟩) FL.length cap) vp vs vh (FL.set i y) { s with fr := fr } := by
  have hg : ro g = .sto := h.rl.inF g rfl
  have k := But.set1 w g (i * 3 + c) u
  have hrow := h.rl.setAt (fun e _ => fxc_len e) hi hc hy
  have hne : ∀ j, Is ro tByt j → ¬ (j = g) := fun j hj e => by rw [e, Is, hg] at hj; cases hj
  refine h.inL k (fun b e => by rw [e]; exact hg) (by have := hrow.own; rw [List.length_set] at this ⊢; exact this) (by rw [List.map_set, h.fl]; exact hfr) (fun e he => ?_) hok
  rcases List.mem_or_eq_of_mem_set he with h4 | h4
  · exact (h.bt e h4).but k hne
  · rw [h4]; exact hb.but k hne
theorem laid_set {l : List FrE} (hn : (l.map (·.1)).Nodup) {i : Nat} {e : FrE} (hi : l[i]? = some e) (b : List Nat) (q : Bool) : St.laid l e.1 b q = l.set i (e.1, b, e.2.2 || q) := by
  have hl : i < l.length := (List.getElem?_eq_some_iff.1 hi).1
  unfold St.laid
  apply List.ext_getElem?
  intro j
  rw [List.getElem?_map, List.getElem?_set]
  by_cases hj : i = j
  · subst hj
    rw [if_pos rfl, if_pos hl, hi]
    simp
  · rw [if_neg hj]
    cases hzj : l[j]? with
    | none => rfl
    | some y =>
      have hne : y.1 ≠ e.1 := fun e2 => hj (by
        refine (List.getElem?_inj (l := l.map (·.1)) (by rw [List.length_map]; exact hl) hn).1 ?_
        rw [List.getElem?_map, List.getElem?_map, hi, hzj]
        simp [e2])
      simp [hne]
set_option maxRecDepth 100000 in
set_option maxHeartbeats 2000000 in
theorem rxput_full (h : Rx w ro gx s) {K : Int} (hh : s.has K = false) (hf : s.most ≤ s.fr.length) {v : Value} {q : Bool} : Calls Try.prog 34 #[ptr gx, .int .i64 K, v, .bool q] w fun e w' => e = .returned (.int .i64 11) ∧ RxTo w ro gx s w' := by
  have HA := Hid.mk' (rxat_any h K)
  have HS := Hid.mk' (fun w' (k : Grow w w') => h.same k)
  obtain ⟨vl, vp, vs, vh, FL, h⟩ := h
  obtain ⟨n, hn⟩ : ∃ n, n = FL.length := ⟨_, rfl⟩
  obtain ⟨ao, cap, e, -⟩ := h.rl.shape
  rw [← hn] at e
  subst e
  obtain ⟨M, hM⟩ : ∃ M, M = s.most := ⟨_, rfl⟩
  have hbk := h.ht.blk
  rw [← hM] at hbk
  have HBK := Hid.mk' hbk
  have hge : (M : Int) ≤ (n : Int) := by have := h.lenL; omega
  clear h hn hM hbk hf
  go_enter Try.func34, Try.ntmps34
  go_wp2_with fail
  refine Calls.mono HA.out ?_
  rintro e w1 ⟨hw, ⟨i, e0, h1, h2, rfl⟩ | ⟨-, rfl⟩⟩
  · exfalso
    have : s.has K = true := St.has_iff.2 ⟨e0, List.mem_of_getElem? h1, h2⟩
    rw [hh] at this
    cases this
  · have h2 := hw.symm
    subst h2
    clear hw hh HA
    go_upto_region 6 with fail
    refine region_chain [] [0, 1, 2, 3, 4, 5, 6, 7, 8, 9] (Grow w) (Grow w) (by kernel_rfl) (by kernel_rfl) (fun _ _ h k => h.trans k) (fun _ h => h) ((But.refl _ w).drew) ?_
    intro ι hne X hX
    have d0 : ∀ x, (X x).cell? ⟨gx, 0, none⟩ = some (.int .i64 (M : Int)) := fun x => (HBK.out.but (hX x) (fun h => h)).cell 0
    have d1 : ∀ x, (X x).cell? ⟨gx, 1, none⟩ = some (.slice ao n cap) := fun x => (HBK.out.but (hX x) (fun h => h)).cell 1
    iterate 10 (refine still_step rfl (fun K hK => ?_); go_simp; refine hK _ ?_; clear hK K)
    refine still_nil ?_
    clear hX hne d0 d1
    intro w2 hw2
    have HFIN := Hid.mk' (HS.out w2 hw2)
    clear hw2
    go_wp2
    go_ret
    exact ⟨rfl, HFIN.out⟩
set_option maxRecDepth 100000 in
set_option maxHeartbeats 4000000 in
theorem rxput_has (h : Rx w ro gx s) {K : Int} (hK : i64 K) (hh : s.has K = true) {v : Value} {xs : List Nat} {q : Bool} (hv : Bs w v xs) (hl : xs.length ≤ 1000000) : Calls Try.prog 34 #[ptr gx, .int .i64 K, v, .bool q] w fun e w' => e = .returned (.int .i64 0) ∧ RxTo w ro gx (s.put K xs q) w' := by
  have HA := Hid.mk' (rxat_any h K)
  obtain ⟨vl, vp, vs, vh, FL, h⟩ := h
  have hok := h.ok.put (b := xs) (wr := q) hK hl
  rw [St.put_has hh] at hok ⊢
  have HOK := Hid.mk' hok
  have HH := Hid.mk' h
  obtain ⟨va, vn, vc, rfl⟩ := hv.sl
  have HV := Hid.mk' hv
  have HL := Hid.mk' hl
  clear h hK hok hv hl
  go_enter Try.func34, Try.ntmps34
  go_wp2_with fail
  refine Calls.mono HA.out ?_
  rintro e w1 ⟨hw, ⟨i, e0, h1, h2, rfl⟩ | ⟨h1, rfl⟩⟩
  · have h3 := hw.symm
    subst h3
    obtain ⟨⟨e1, qv⟩, hq⟩ : ∃ x, FL[i]? = some x := ⟨_, List.getElem?_eq_getElem (by rw [HH.out.lenL]; exact (List.getElem?_eq_some_iff.1 h1).1)⟩
    have he : e1 = e0 := by
      rw [← HH.out.fl, List.getElem?_map, hq] at h1
      simpa using h1
    subst he
    obtain ⟨ek, eb, em⟩ := e1
    have h2' : ek = K := h2
    subst h2'
    have HSET : Hid (St.laid s.fr ek xs q = s.fr.set i (ek, xs, em || q)) := laid_set HH.out.ok.nd h1 xs q
    obtain ⟨g, cp, hvl, hgt, -⟩ := HH.out.rl.cellAt (fun e _ => fxc_len e) hq
    subst hvl
    have hil : i < FL.length := (List.getElem?_eq_some_iff.1 hq).1
    have hii : 0 ≤ (i : Int) := by omega
    obtain ⟨n, hn⟩ : ∃ n, n = FL.length := ⟨_, rfl⟩
    have hlen : (i : Int) < (n : Int) := by omega
    have hh' := HH.out
    rw [← hn] at hh'
    have HH2 := Hid.mk' hh'
    have HBK := Hid.mk' hh'.ht.blk
    have HN := Hid.mk' hn
    have HQ := Hid.mk' hq
    have HIK : Hid (s.fr[i]? = some (ek, eb, em)) := h1
    have HSTO : Hid (ro g = .sto) := hgt
    -- what is left of the table behind each store
    have HF1 : Hid (∀ W1 v1, Grow w W1 → Ow W1 w.heap.size v1 xs → ∃ ro1, Fresh w ro ro1 ∧ RxM (W1.setCell ⟨g, i * 3 + 1, none⟩ v1) ro1 gx (.slice (some ⟨g, 0, none⟩) n cp) vp vs vh (FL.set i ((ek, xs, em), v1)) { s with fr := s.fr.set i (ek, xs, em) } ∧ Grow w W1 ∧ ro1 g = .sto) := fun W1 v1 k1 k2 => by
      obtain ⟨g1, g2, g3⟩ := HH.out.tagB k1 k2
      have hlay := g1.lay (y := ((ek, xs, em), v1)) (u := v1) (fr := s.fr.set i (ek, xs, em)) HQ.out (c := 1) (by decide) rfl g3 rfl ?_
      · rw [← HN.out] at hlay
        exact ⟨_, g2, hlay, k1, g1.rl.inF g rfl⟩
      · have hs := HOK.out
        rw [HSET.out] at hs
        have hkeys : ∀ b : Bool, (s.fr.set i (ek, xs, b)).map (·.1) = s.fr.map (·.1) := fun b => by
          rw [List.map_set]
          have h9 : (s.fr.map (·.1))[i]? = some ek := by rw [List.getElem?_map, HIK.out]; rfl
          obtain ⟨hb1, hb2⟩ := List.getElem?_eq_some_iff.1 h9
          rw [← hb2, List.set_getElem_self]
        refine ⟨hs.m1, hs.m2, ?_, by have := hs.le; simp only [List.length_set] at this ⊢; exact this, fun e he => ?_, fun p hp => ?_, hs.tn, hs.sk, hs.sl⟩
        · show ((s.fr.set i (ek, xs, em)).map (·.1)).Nodup
          rw [hkeys]; exact HH.out.ok.nd
        · rcases List.mem_or_eq_of_mem_set he with h4 | h4
          · exact HH.out.ok.ik e h4
          · rw [h4]; exact ⟨(HH.out.ok.ik _ (List.mem_of_getElem? HIK.out)).1, HL.out⟩
        · have h6 := HH.out.ok.pk p hp
          refine ⟨h6.1, h6.2.1, ?_⟩
          have h7 := h6.2.2
          unfold St.has at h7 ⊢
          rw [hasK_keys] at h7 ⊢
          show p.2 ∈ (s.fr.set i (ek, xs, em)).map (·.1)
          rw [hkeys]; exact h7
    have HF2 : Hid (∀ W2 ro1 v1, RxM W2 ro1 gx (.slice (some ⟨g, 0, none⟩) n cp) vp vs vh (FL.set i ((ek, xs, em), v1)) { s with fr := s.fr.set i (ek, xs, em) } → RxM (W2.setCell ⟨g, i * 3 + 2, none⟩ (.bool (em || q))) ro1 gx (.slice (some ⟨g, 0, none⟩) n cp) vp vs vh ((FL.set i ((ek, xs, em), v1)).set i ((ek, xs, em || q), v1)) { s with fr := St.laid s.fr ek xs q }) := fun W2 ro1 v1 k => by
      have hlen2 : (FL.set i ((ek, xs, em), v1)).length = n := by rw [List.length_set]; exact HN.out.symm
      have hk := k
      rw [← hlen2] at hk
      have hi2 : (FL.set i ((ek, xs, em), v1))[i]? = some ((ek, xs, em), v1) := by rw [List.getElem?_set, if_pos rfl, if_pos (by have := HN.out; omega)]
      have hok2 := HOK.out
      have hlay := hk.lay (y := ((ek, xs, em || q), v1)) (u := .bool (em || q)) (fr := St.laid s.fr ek xs q) (c := 2) hi2 (by decide) rfl (k.bt ((ek, xs, em), v1) (List.mem_of_getElem? hi2)) (by rw [HSET.out]; show (s.fr.set i (ek, xs, em)).set i _ = _; rw [List.set_set]) hok2
      rw [hlen2] at hlay
      exact hlay
    clear hw h1 h2 hq hgt hil hh' hn hh HA
    go_upto_region 3 with fail
    refine region_chain [([0, 1, 2, 3, 4, 5], 6), ([7, 8], 9)] [] (Grow w) (Grow w) (by kernel_rfl) (by kernel_rfl) (fun _ _ h k => h.trans k) (fun _ h => h) ((But.refl _ w).drew) ?_
    intro ι hne X hX
    have d1 : ∀ x, (X x).cell? ⟨gx, 1, none⟩ = some (.slice (some ⟨g, 0, none⟩) n cp) := fun x => (HBK.out.but (hX x) (fun h => h)).cell 1
    iterate 6 (refine still_step rfl (fun K hK => ?_); go_simp; refine hK _ ?_; clear hK K)
    refine still_nil ?_
    clear hX hne d1 X ι
    refine turn_call rfl rfl (fun u w' => Grow w w' ∧ Ow w' w.heap.size u xs) (fun _ => Grow w) (fun u w1 w2 h k => ⟨h.1.trans k, h.2.but k (fun _ _ _ h => h)⟩) (fun u w1 h => h.1) (.inr (fun _ _ h => h)) 33 #[.slice va vn vc] (fun _ => by kernel_rfl) ?_ ?_
    · intro w2 k2
      refine (copy_any (HV.out.but k2 (fun _ _ _ h => h)) (by have := HL.out; omega)).mono ?_
      rintro e w3 ⟨v3, rfl, how, hbe⟩
      exact ⟨v3, rfl, k2.trans (But.of hbe), how.mono k2.size⟩
    rintro v1 ⟨wq, -, how⟩ Y hY
    have HV1 : Hid (v1.oneCell' = true) := ownsRow_one how.own
    obtain ⟨xa, xn, xc, rfl⟩ := how.bs.sl
    clear how wq
    go_simp
    refine hY _ ?_
    clear hY Y
    intro ι hne X hX
    iterate 2 (refine still_step rfl (fun K hK => ?_); go_simp; refine hK _ ?_; clear hK K)
    refine still_nil ?_
    clear hX hne X ι
    refine turn_run rfl rfl (fun _ w' => ∃ ro1 W2, Fresh w ro ro1 ∧ RxM W2 ro1 gx (.slice (some ⟨g, 0, none⟩) n cp) vp vs vh (FL.set i ((ek, xs, em), .slice xa xn xc)) { s with fr := s.fr.set i (ek, xs, em) } ∧ But (· = g) w W2 ∧ ro1 g = .sto ∧ Grow W2 w') (fun _ _ => True) (fun _ w1 w2 h k => by
        obtain ⟨a, b, h1, h2, h3, h4, h5⟩ := h
        exact ⟨a, b, h1, h2, h3, h4, h5.trans k⟩) (fun _ _ _ => trivial) (.inl (by kernel_rfl)) ?_ ?_
    · rintro w2 ⟨k2, how⟩
      obtain ⟨ro1, hf, hm, k3, hst⟩ := HF1.out w2 _ k2 how
      have hsp := ((HH2.out.grow k2).rl)
      rw [HN.out] at hsp
      obtain ⟨⟨u, hu⟩, hfz⟩ := hsp.spot (fun e _ => fxc_len e) HQ.out (c := 1) (by decide)
      obtain ⟨M, hM, hMl⟩ := hsp.blk
      refine turn_store infB1 rfl rfl rfl rfl hM (by rw [flat_len' FL (fun e _ => fxc_len e)] at hMl; have := HN.out; omega) ⟨ro1, _, hf, hm, (k2.mono (fun _ _ h => h.elim)).trans (But.set1 w2 g _ _), hst, But.refl _ _⟩
    rintro _ - Y hY
    go_simp
    refine hY _ ?_
    clear hY Y HF1
    intro ι hne X hX
    refine still_nil ?_
    clear hX hne
    rintro w3 ⟨ro1, W2, hf, hm, hb, hst, hg3⟩
    have hm3 := hm.grow hg3
    have HM3 := Hid.mk' hm3
    have HFR := Hid.mk' hf
    have HB3 : Hid (But (fun b => ro b ≠ .none ∧ ro b ≠ tByt) w w3) := (hb.mono (fun b _ e => by rw [e, HSTO.out]; exact ⟨by decide, by decide⟩)).trans (hg3.mono (fun _ _ h => h.elim))
    have hlen2 : (FL.set i ((ek, xs, em), Value.slice xa xn xc)).length = n := by rw [List.length_set]; exact HN.out.symm
    have hi2 : (FL.set i ((ek, xs, em), Value.slice xa xn xc))[i]? = some ((ek, xs, em), Value.slice xa xn xc) := by rw [List.getElem?_set, if_pos rfl, if_pos (by have := HN.out; omega)]
    have hrl3 := hm3.rl
    rw [← hlen2] at hrl3
    rw [hlen2] at hrl3
    have HI2 := Hid.mk' hi2
    have HL2 := Hid.mk' hlen2
    have HBK3 := Hid.mk' hm3.ht.blk
    have HSTO1 := Hid.mk' hst
    have HRL3 : Hid (∀ W, Grow w3 W → RowOf W (Is ro1 .sto) 65 3 (.slice (some ⟨g, 0, none⟩) (FL.set i ((ek, xs, em), Value.slice xa xn xc)).length cp) (FL.set i ((ek, xs, em), Value.slice xa xn xc)).length ((FL.set i ((ek, xs, em), Value.slice xa xn xc)).flatMap fxc)) := fun W k => by
      have := (hm3.grow k).rl
      rw [← hlen2] at this
      rw [hlen2] at this ⊢
      exact this
    clear hf hm hb hst hg3 hm3 hlen2 hi2 hrl3 HH HH2 HV HBK HSTO
    cases em
    · go_upto_region 4 with fail
      refine region_chain [([0, 1, 2, 3, 4, 5, 6, 7, 8, 9, 10, 11, 12, 13, 14, 15, 16, 17], 18)] [] (Grow w3) (Grow w3) (by kernel_rfl) (by kernel_rfl) (fun _ _ h k => h.trans k) (fun _ h => h) ((But.refl _ w3).drew) ?_
      intro ι hne X hX
      have d1 : ∀ x, (X x).cell? ⟨gx, 1, none⟩ = some (.slice (some ⟨g, 0, none⟩) n cp) := fun x => (HBK3.out.but (hX x) (fun h => h)).cell 1
      have d2 : ∀ x, (X x).cell? ⟨g, i * 3 + 2, none⟩ = some (.bool false) := fun x => by
        obtain ⟨g', cp', e', -, hc⟩ := (HRL3.out _ (hX x)).cellAt (fun e _ => fxc_len e) HI2.out
        simp only [Value.slice.injEq, Option.some.injEq, Addr.mk.injEq, and_true] at e'
        obtain ⟨rfl, -, rfl⟩ := e'
        exact hc 2 _ rfl
      iterate 18 (refine still_step rfl (fun K hK => ?_); go_simp; refine hK _ ?_; clear hK K)
      refine still_nil ?_
      clear hX hne d1 d2 X ι
      refine turn_run rfl rfl (fun _ w' => RxTo w ro gx { s with fr := St.laid s.fr ek xs q } w') (fun _ _ => True) (fun _ w1 w2 h k => h.grow k) (fun _ _ _ => trivial) (.inl (by kernel_rfl)) ?_ ?_
      · rintro w4 k4
        obtain ⟨⟨u, hu⟩, hfz⟩ := (HRL3.out w4 k4).spot (fun e _ => fxc_len e) HI2.out (c := 2) (by decide)
        obtain ⟨M, hM, hMl⟩ := (HRL3.out w4 k4).blk
        have hfin := HF2.out w4 ro1 _ (HM3.out.grow k4)
        have hb9 : But (fun b => ro b ≠ .none ∧ ro b ≠ tByt) w (w4.setCell ⟨g, i * 3 + 2, none⟩ (.bool (false || q))) := HB3.out.then ((k4.mono (fun _ _ h => h.elim)).trans (But.set1 w4 g (i * 3 + 2) _)) (fun b hb e => by
          have : ro b = .sto := by
            by_cases e2 : ro1 b = ro b
            · rw [← e2, e]; exact HSTO1.out
            · exact absurd (HFR.out b e2) (by omega)
          rw [this]
          exact ⟨by decide, by decide⟩)
        refine turn_store infBl rfl rfl rfl rfl hM (by rw [flat_len' _ (fun e _ => fxc_len e), HL2.out] at hMl; omega) (hfin.to HFR.out hb9)
      rintro _ - Y hY
      go_simp
      refine hY _ ?_
      clear hY Y
      intro ι hne X hX
      refine still_nil ?_
      clear hX hne
      intro w6 hw6
      have HW6 := Hid.mk' hw6
      clear hw6
      go_wp2
      go_ret
      exact ⟨rfl, HW6.out⟩
    · go_upto_region 4 with fail
      refine region_chain [([0, 1, 2, 3, 4, 5, 6, 7, 8, 9, 10, 11, 12, 13, 14, 15, 16, 17], 18)] [] (Grow w3) (Grow w3) (by kernel_rfl) (by kernel_rfl) (fun _ _ h k => h.trans k) (fun _ h => h) ((But.refl _ w3).drew) ?_
      intro ι hne X hX
      have d1 : ∀ x, (X x).cell? ⟨gx, 1, none⟩ = some (.slice (some ⟨g, 0, none⟩) n cp) := fun x => (HBK3.out.but (hX x) (fun h => h)).cell 1
      have d2 : ∀ x, (X x).cell? ⟨g, i * 3 + 2, none⟩ = some (.bool true) := fun x => by
        obtain ⟨g', cp', e', -, hc⟩ := (HRL3.out _ (hX x)).cellAt (fun e _ => fxc_len e) HI2.out
        simp only [Value.slice.injEq, Option.some.injEq, Addr.mk.injEq, and_true] at e'
        obtain ⟨rfl, -, rfl⟩ := e'
        exact hc 2 _ rfl
      iterate 18 (refine still_step rfl (fun K hK => ?_); go_simp; refine hK _ ?_; clear hK K)
      refine still_nil ?_
      clear hX hne d1 d2 X ι
      refine turn_run rfl rfl (fun _ w' => RxTo w ro gx { s with fr := St.laid s.fr ek xs q } w') (fun _ _ => True) (fun _ w1 w2 h k => h.grow k) (fun _ _ _ => trivial) (.inl (by kernel_rfl)) ?_ ?_
      · rintro w4 k4
        obtain ⟨⟨u, hu⟩, hfz⟩ := (HRL3.out w4 k4).spot (fun e _ => fxc_len e) HI2.out (c := 2) (by decide)
        obtain ⟨M, hM, hMl⟩ := (HRL3.out w4 k4).blk
        have hfin := HF2.out w4 ro1 _ (HM3.out.grow k4)
        have hb9 : But (fun b => ro b ≠ .none ∧ ro b ≠ tByt) w (w4.setCell ⟨g, i * 3 + 2, none⟩ (.bool (true || q))) := HB3.out.then ((k4.mono (fun _ _ h => h.elim)).trans (But.set1 w4 g (i * 3 + 2) _)) (fun b hb e => by
          have : ro b = .sto := by
            by_cases e2 : ro1 b = ro b
            · rw [← e2, e]; exact HSTO1.out
            · exact absurd (HFR.out b e2) (by omega)
          rw [this]
          exact ⟨by decide, by decide⟩)
        refine turn_store infBl rfl rfl rfl rfl hM (by rw [flat_len' _ (fun e _ => fxc_len e), HL2.out] at hMl; omega) (hfin.to HFR.out hb9)
      rintro _ - Y hY
      go_simp
      refine hY _ ?_
      clear hY Y
      intro ι hne X hX
      refine still_nil ?_
      clear hX hne
      intro w6 hw6
      have HW6 := Hid.mk' hw6
      clear hw6
      go_wp2
      go_ret
      exact ⟨rfl, HW6.out⟩
  · rw [hh] at h1
    cases h1
end
end Go.Proofs.Ytmlklmhochihbaa
/- The reference's frames: Put of a key that is new. -/
namespace Go.Proofs.Ytmlklmhochihbaa
open Go.RowKit

section
variable {w w' w1 : World} {ro ro1 : Owner} {gx : Nat} {vl vp vs vh v' : Value} {FL FL' : List FrV} {s s' : St} {R : Nat → Prop}
theorem RxM.setL2 (h : RxM w ro gx vl vp vs vh FL s) (k : But R w w1) (hR : ∀ b, R b → ro b = .sto) (hx1 : Ext ro ro1) (hf1 : Fresh w ro ro1) (ht1 : Top w1 ro1) (hrow : w1.ownsRow 0 65 3 v' FL'.length (FL'.flatMap fxc)) (hv : ∀ k, v'.ownBlock = some k → w.heap.size ≤ k ∨ ro k = .sto) (hv1 : ∀ k, v'.ownBlock = some k → ro1 k = .none ∨ ro1 k = .sto)
    {fr : List FrE} (hfl : FL'.map (·.1) = fr) (hbt : ∀ e ∈ FL', Bf w1 (fun j => ro1 j = tByt) e.2 e.1.2.1) (hok : Sok { s with fr := fr }) :
    RxM (w1.setCell ⟨gx, 1, none⟩ v') (tagV ro1 v' .sto) gx v' vp vs vh FL' { s with fr := fr } ∧ Fresh w ro (tagV ro1 v' .sto) ∧ But (fun b => ro b ≠ .none ∧ ro b ≠ tByt) w (w1.setCell ⟨gx, 1, none⟩ v') := by
  have hx2 : Ext ro1 (tagV ro1 v' .sto) := Ext.tagV hv1
  have hx := hx1.trans hx2
  have hf : Fresh w ro (tagV ro1 v' .sto) := hf1.tagV hv
  have k2 := But.set1 w1 gx 1 v'
  have nx : ∀ {b t}, ro b = t → t ≠ .dev → ¬ (b = gx) := fun {b t} hb ht e => ht (by rw [← hb, e]; exact h.ox)
  have ox1 : ro1 gx = .dev := hx1.is (by decide) _ h.ox
  have vx : ∀ j, v'.ownBlock = some j → ¬ (j = gx) := fun j hj e => by
    rcases hv j hj with h1 | h1
    · have := h.ht.blk.lt; omega
    · exact nx h1 (by decide) e
  have kb : But (fun b => ro b ≠ .none ∧ ro b ≠ tByt) w (w1.setCell ⟨gx, 1, none⟩ v') := (k.mono (fun b _ e => by rw [hR b e]; exact ⟨by decide, by decide⟩)).trans (k2.mono (fun b _ e => by rw [e, h.ox]; exact ⟨by decide, by decide⟩))
  have hm : RxM (w1.setCell ⟨gx, 1, none⟩ v') (tagV ro1 v' .sto) gx v' vp vs vh FL' { s with fr := fr } := by
    refine ⟨⟨(h.ht.blk.but k (neR hR h.ox (by decide))).set 1 v', ⟨ownsRow_but (ownsRow_but h.ht.row.own k (fun j hj => neR hR (h.oh j hj) (by decide))) k2 (fun j hj => h.ht.row.inF j hj), h.ht.row.inF⟩, h.ht.h1, h.ht.h2, h.ht.nw, h.ht.ln, h.ht.ok⟩,
      ⟨ownsRow_but hrow k2 vx, fun j hj => tagV_own hj⟩, hfl, fun e he => ?_,
      (h.rp.but k (fun j hj => neR hR hj (by decide)) (fun _ h => h)).but k2 (fun j hj => nx hj (by decide)) (hx.is (by decide)),
      (h.rs.but k (fun j hj => neR hR hj (by decide)) (fun _ h => h)).but k2 (fun j hj => nx hj (by decide)) (hx.is (by decide)), fun j hj => hx.is (by decide) j (h.oh j hj), hx.is (by decide) _ h.ox, hok, h.pl, ?_⟩
    · have h3 := ((hbt e he).but k2 (fun j hj e => by rw [e, ox1] at hj; cases hj))
      exact ⟨h3.1, fun h0 j hj => hx2.is (t := tByt) (fun e => nomatch e) j (h3.2 h0 j hj)⟩
    · exact (ht1.tagV (fun j hj => own_lt hrow hj)).grow k2.size
  exact ⟨hm, hf, kb⟩
set_option maxRecDepth 100000 in
set_option maxHeartbeats 4000000 in
theorem rxput_new (h : Rx w ro gx s) {K : Int} (hK : i64 K) (hh : s.has K = false) (hf : s.fr.length < s.most) {v : Value} {xs : List Nat} {q : Bool} (hv : Bs w v xs) (hl : xs.length ≤ 1000000) : Calls Try.prog 34 #[ptr gx, .int .i64 K, v, .bool q] w fun e w' => e = .returned (.int .i64 0) ∧ RxTo w ro gx (s.put K xs q) w' := by
  have HA := Hid.mk' (rxat_any h K)
  obtain ⟨vl, vp, vs, vh, FL, h⟩ := h
  have hok := h.ok.put (b := xs) (wr := q) hK hl
  have hpe : s.put K xs q = { s with fr := s.fr ++ [(K, xs, q)] } := by unfold St.put; rw [if_neg (by rw [hh]; decide), if_neg (by omega)]
  rw [hpe] at hok ⊢
  have HOK := Hid.mk' hok
  have HH := Hid.mk' h
  obtain ⟨va, vn, vc, rfl⟩ := hv.sl
  have HV := Hid.mk' hv
  have HL := Hid.mk' hl
  obtain ⟨n, hn⟩ : ∃ n, n = FL.length := ⟨_, rfl⟩
  obtain ⟨ao, cap, e, -⟩ := h.rl.shape
  rw [← hn] at e
  subst e
  obtain ⟨M, hM⟩ : ∃ M, M = s.most := ⟨_, rfl⟩
  have hbk := h.ht.blk
  rw [← hM] at hbk
  have HBK := Hid.mk' hbk
  have hge : ¬ ((M : Int) ≤ (n : Int)) := by have := h.lenL; omega
  have HNB : Hid (n ≤ 1024) := by show _ ≤ _; have := h.small.1; omega
  have HN := Hid.mk' hn
  have hro := h.rl.own
  rw [← hn] at hro
  have HRO := Hid.mk' hro
  have hin' : ∀ k, (Value.slice ao n cap).ownBlock = some k → ro k = .sto := fun k hk => h.rl.inF k hk
  have HIN := Hid.mk' hin'
  have HVE : Hid (¬ (Value.slice ao n cap).ownBlock = some gx) := fun e => by
    have := hin' gx e
    rw [h.ox] at this
    cases this
  have HLT : Hid (∀ k, (Value.slice ao n cap).ownBlock = some k → k < w.heap.size) := fun k hk => own_lt hro hk
  clear h hn hM hbk hf hK hok hv hl hpe hro hin'
  go_enter Try.func34, Try.ntmps34
  go_wp2_with fail
  refine Calls.mono HA.out ?_
  rintro e w1 ⟨hw, ⟨i, e0, h1, h2, rfl⟩ | ⟨-, rfl⟩⟩
  · exfalso
    have : s.has K = true := St.has_iff.2 ⟨e0, List.mem_of_getElem? h1, h2⟩
    rw [hh] at this
    cases this
  have h2 := hw.symm
  subst h2
  clear hw hh HA
  go_upto_region 6 with fail
  refine region_chain [] [0, 1, 2, 3, 4, 5, 6, 7, 8, 9] (Grow w) (Grow w) (by kernel_rfl) (by kernel_rfl) (fun _ _ h k => h.trans k) (fun _ h => h) ((But.refl _ w).drew) ?_
  intro ι hne X hX
  have d0 : ∀ x, (X x).cell? ⟨gx, 0, none⟩ = some (.int .i64 (M : Int)) := fun x => (HBK.out.but (hX x) (fun h => h)).cell 0
  have d1 : ∀ x, (X x).cell? ⟨gx, 1, none⟩ = some (.slice ao n cap) := fun x => (HBK.out.but (hX x) (fun h => h)).cell 1
  iterate 10 (refine still_step rfl (fun K hK => ?_); go_simp; refine hK _ ?_; clear hK K)
  refine still_nil ?_
  clear hX hne d0 d1
  intro w2 hw2
  have HW2 := Hid.mk' hw2
  clear hw2
  go_upto_region 8 with fail
  refine region_chain [([0, 1, 2, 3, 4, 5, 6, 8], 7), ([9], 10), ([], 11), ([12, 13], 14)] [] (But (fun k => (Value.slice ao n cap).ownBlock = some k) w) (Grow w) (by kernel_rfl) (by kernel_rfl) (fun _ _ h k => h.trans k) (fun _ h => h.mono (fun _ _ h => h.elim)) (HW2.out.drew) ?_
  intro ι hne X hX
  have d1 : ∀ x, (X x).cell? ⟨gx, 1, none⟩ = some (.slice ao n cap) := fun x => (HBK.out.but (hX x) HVE.out).cell 1
  iterate 8 (refine still_step rfl (fun K hK => ?_); go_simp; refine hK _ ?_; clear hK K)
  refine still_nil ?_
  clear hX hne d1 X ι
  refine turn_call rfl rfl (fun u w' => Grow w w' ∧ Ow w' w.heap.size u xs) (fun _ => But (fun k => (Value.slice ao n cap).ownBlock = some k) w) (fun u w1 w2 h k => ⟨h.1.trans k, h.2.but k (fun _ _ _ h => h)⟩) (fun u w1 h => h.1.mono (fun _ _ h => h.elim)) (.inr (fun _ _ h => h)) 33 #[.slice va vn vc] (fun _ => by kernel_rfl) ?_ ?_
  · intro w2 k2
    refine (copy_any (HV.out.but k2 (fun _ _ _ h => h)) (by have := HL.out; omega)).mono ?_
    rintro e w3 ⟨v3, rfl, how, hbe⟩
    exact ⟨v3, rfl, k2.trans (But.of hbe), how.mono k2.size⟩
  rintro v1 ⟨wq, -, how⟩ Y hY
  obtain ⟨xa, xn, xc, rfl⟩ := how.bs.sl
  clear how wq
  go_simp
  refine hY _ ?_
  clear hY Y
  intro ι hne X hX
  refine still_val rfl (.agg #[.int .i64 K, .slice xa xn xc, .bool q]) rfl (fun z => exec_build _ [_, _, _] rfl [(0, .int .i64 K), (1, .slice xa xn xc), (2, .bool q)] rfl _ (bld_fx K q xa xn xc _)) ?_
  intro K hK; go_simp; refine hK _ ?_; clear hK K
  refine still_nil ?_
  clear hX hne X ι
  refine turn_run rfl rfl (fun u w' => Grow w w' ∧ Ow w' w.heap.size (.slice xa xn xc) xs ∧ ∃ g, u = .slice (some ⟨g, 0, none⟩) 1 1 ∧ Blk w' g 65 (fxc ((K, xs, q), .slice xa xn xc))) (fun _ => But (fun k => (Value.slice ao n cap).ownBlock = some k) w) ?_ (fun _ _ h => h.1.mono (fun _ _ h => h.elim)) (.inr (fun _ _ h => h)) ?_ ?_
  · rintro u w5 w6 ⟨h1, h2, g, h3, h4⟩ k
    exact ⟨h1.trans k, h2.but k (fun _ _ _ h => h), g, h3, h4.but k (fun h => h)⟩
  · rintro w5 ⟨h4, h5⟩
    refine turn_row1 (v := .agg #[.int .i64 K, .slice xa xn xc, .bool q]) Try.underlying66 infFr (by decide) (by decide) rfl rfl rfl ⟨h4.trans ((But.refl _ w5).alloc _), h5.but ((But.refl (fun _ => False) w5).alloc _) (fun _ _ _ h => h), _, rfl, ?_⟩
    exact Blk.new (L := fxc ((K, xs, q), .slice xa xn xc)) rfl
  rintro u ⟨wq, -, -, gn, rfl, -⟩ Y hY
  clear wq
  go_simp
  refine hY _ ?_
  clear hY Y
  intro ι hne X hX
  refine still_nil ?_
  clear hX hne X ι
  refine turn_run rfl rfl (fun u w' => But (fun k => (Value.slice ao n cap).ownBlock = some k) w w' ∧ Ow w' w.heap.size (.slice xa xn xc) xs ∧ w'.ownsRow 0 65 3 u (n + 1) (FL.flatMap fxc ++ fxc ((K, xs, q), .slice xa xn xc)) ∧ (∀ k, u.ownBlock = some k → (w.heap.size ≤ k ∨ ro k = .sto) ∧ (Value.slice xa xn xc).ownBlock ≠ some k)) (fun _ => But (fun k => (Value.slice ao n cap).ownBlock = some k) w) ?_ (fun _ _ h => h.1) (.inr (fun _ _ h => h)) ?_ ?_
  · rintro u w5 w6 ⟨h1, h2, h3, h4⟩ k
    exact ⟨h1.trans (k.mono (fun _ _ h => h.elim)), h2.but k (fun _ _ _ h => h), ownsRow_grow h3 k, h4⟩
  · rintro w5 ⟨h1, h2, g', e9, h3⟩
    cases e9
    refine turn_append (v := .slice ao n cap) (n := n) (xs := FL.flatMap fxc) (news := fxc ((K, xs, q), .slice xa xn xc)) Try.underlying66 infFr rfl (by decide) rfl rfl (ownsRow_grow HRO.out h1) rfl rfl (fun j u hj => h3.cells0 j u hj) (fxc_one (e := ((K, xs, q), .slice xa xn xc)) (w := w5) (G := fun _ => True) ⟨h2.bs, fun _ _ _ => trivial⟩) (by have := HNB.out; omega) (by decide) ?_
    intro v' w6 hap
    refine ⟨(h1.mono (fun _ _ h => h.elim)).trans hap.but, h2.but hap.but (fun j hj _ e => ?_), hap.own, fun j hj => ?_⟩
    · have := (h2.ge j hj).1
      have := HLT.out j e
      omega
    · rcases hap.at' with e | e
      · rw [e] at hj
        exact ⟨.inr (HIN.out j hj), fun e2 => by have := (h2.ge j e2).1; have := HLT.out j hj; omega⟩
      · rw [e] at hj
        cases hj
        exact ⟨.inl h1.size, fun e2 => by have := (h2.ge _ e2).2; omega⟩
  rintro v2 ⟨wq, -, -, hov, -⟩ Y hY
  have HV2 : Hid (v2.oneCell' = true) := ownsRow_one hov
  clear hov wq
  go_simp
  refine hY _ ?_
  clear hY Y
  intro ι hne X hX
  iterate 2 (refine still_step rfl (fun K hK => ?_); go_simp; refine hK _ ?_; clear hK K)
  refine still_nil ?_
  clear hX hne X ι
  refine turn_run rfl rfl (fun _ w' => RxTo w ro gx { s with fr := s.fr ++ [(K, xs, q)] } w') (fun _ _ => True) (fun _ _ _ h k => h.grow k) (fun _ _ _ => trivial) (.inl (by kernel_rfl)) ?_ ?_
  · rintro w5 ⟨h1, h2, h3, h4⟩
    have hbk := HBK.out.but h1 HVE.out
    have htop : Top w5 (tagV ro (.slice xa xn xc) tByt) := (HH.out.top.grow h1.size).tagV (fun j hj => own_lt h2.own hj)
    obtain ⟨hx1, hf1⟩ := tagF (v' := .slice xa xn xc) (T := tByt) HH.out.top (fun j hj => .inl (h2.ge j hj).1)
    have hrow : w5.ownsRow 0 65 3 v2 (FL ++ [((K, xs, q), Value.slice xa xn xc)]).length ((FL ++ [((K, xs, q), Value.slice xa xn xc)]).flatMap fxc) := by
      rw [show (FL ++ [((K, xs, q), Value.slice xa xn xc)]).length = n + 1 by rw [List.length_append, ← HN.out]; rfl, show (FL ++ [((K, xs, q), Value.slice xa xn xc)]).flatMap fxc = FL.flatMap fxc ++ fxc ((K, xs, q), .slice xa xn xc) by simp]
      exact h3
    obtain ⟨g1, g2, g3⟩ := HH.out.setL2 (fr := s.fr ++ [(K, xs, q)]) h1 (fun b e => HIN.out b e) hx1 hf1 htop hrow (fun j hj => (h4 j hj).1) (fun j hj => by
        by_cases e : ro j = .sto
        · exact .inr (hx1.is (by decide) j e)
        · left
          rcases (h4 j hj).1 with h5 | h5
          · have h6 := HH.out.top j h5
            unfold tagV
            cases hb : (Value.slice xa xn xc).ownBlock with
            | none => exact h6
            | some k =>
              show tagAt ro k tByt j = .none
              unfold tagAt
              rw [if_neg (fun e => (h4 j hj).2 (by rw [hb, e]))]
              exact h6
          · exact absurd h5 e) (by rw [List.map_append, HH.out.fl]; rfl) (fun e he => by
        rcases List.mem_append.1 he with h5 | h5
        · have h6 := (HH.out.bt e h5).but h1 (fun j hj e2 => by rw [Is, HIN.out j e2] at hj; cases hj)
          exact ⟨h6.1, fun h0 j hj => hx1.is (t := tByt) (fun e => nomatch e) j (h6.2 h0 j hj)⟩
        · rw [show e = ((K, xs, q), Value.slice xa xn xc) by simpa using h5]
          exact ⟨h2.bs, fun _ j hj => tagV_own hj⟩) HOK.out
    refine turn_store infSFr rfl rfl rfl HV2.out hbk (by simp) (g1.to g2 g3)
  rintro v5 - Y hY
  go_simp
  refine hY _ ?_
  clear hY Y
  intro ι hne X hX
  refine still_nil ?_
  clear hX hne
  intro w6 hw6
  have HW6 := Hid.mk' hw6
  clear hw6
  go_wp2
  go_ret
  exact ⟨rfl, HW6.out⟩
end
end Go.Proofs.Ytmlklmhochihbaa
/- General: a slice from a place on. -/
namespace Go.Proofs.Ytmlklmhochihbaa
open Go.RowKit

theorem cut_from {T e : TypeId} {sz : Nat} (hu : Try.prog.underlying T = some (.slice (Try.prog.elem T))) (he : Try.prog.elem T = e) (hs : ∀ w0 : World, (sizeOf e).run Try.prog w0 = .ok sz w0) {b n cap k : Nat} (hk : k ≤ n) (hc : n ≤ cap) :
    ∃ A c, (∀ w0 : World, (Instr.sliceAt T (.slice (some ⟨b, 0, none⟩) n cap) (some (.int .i64 (k : Int))) none none).run Try.prog w0 = .ok (.slice (some A) (n - k) c) w0) ∧ (k < n → A = ⟨b, k * sz, none⟩) ∧ c = cap - k := by
  refine ⟨if cap = k then ⟨b, 0, none⟩ else ⟨b, k * sz, none⟩, cap - k, fun w0 => ?_, fun h => by rw [if_neg (by omega)], rfl⟩
  rw [run_sliceAt_slice _ _ _ _ _ _ hu, run_slice_l w0 _ _ _ _ hu .i64 (k : Int) (by omega) (by omega), he, hs]
  by_cases hcn : cap = k
  · simp [Result.andThen, sliced, hcn]
  · by_cases h0 : k * sz = 0
    · simp [Result.andThen, sliced, hcn, Addr.add, h0]
    · simp [Result.andThen, sliced, hcn, Addr.add, h0]
end Go.Proofs.Ytmlklmhochihbaa
