/- Of a plan that Of made: no two children have one place, each place is there, each block of the tree has a child. No code in it. -/
import Derived.Test.YtidblaepklgkcabPlTree
namespace Go.Proofs.Ytidblaepklgkcab
open Go.RowKit

/-- What stands in a level, or above it, is led up. -/
structure Led (f lo hd x : Int) (c : Pc) : Prop where
  e : c.e = 0
  up : x < c.block
  lo : lo ≤ c.block
  hd : c.block < hd
  at0 : 0 ≤ c.at'
  at8 : c.at' < 8
theorem go_led {t hd : Int} : ∀ (ls : List Int) (f m : Int), 0 ≤ f → 1 ≤ m → LvC m ls → f + m + sm ls = hd → hd ≤ 1000000 → t = hd - 1 →
    (parGo t t f m ls = ⟨0, 0, 5⟩) ∧ (∀ x, f ≤ x → x < t → Led f (f + m) hd x (parGo x t f m ls)) ∧
    (∀ x y, f ≤ x → x < t → f ≤ y → y < t → (parGo x t f m ls).block = (parGo y t f m ls).block → (parGo x t f m ls).at' = (parGo y t f m ls).at' → x = y) ∧
    (∀ z, f + m ≤ z → z < hd → ∃ x, f ≤ x ∧ x < t ∧ (parGo x t f m ls).block = z)
  | [], f, m, hf, hm, hl, hh, hb, ht => by
    have hm1 : m = 1 := hl
    unfold sm at hh
    refine ⟨by rw [parGo_nil, if_pos rfl], fun x h1 h2 => by omega, fun x y h1 h2 => by omega, fun z h1 h2 => by omega⟩
  | a :: ls, f, m, hf, hm, hl, hh, hb, ht => by
    obtain ⟨h1, h2⟩ := hl
    have h3 := LvC.pos (by omega) h2
    unfold sm at hh
    obtain ⟨i1, i2, i3, i4⟩ := go_led (t := t) (hd := hd) ls (f + m) a (by omega) (by omega) h2 (by omega) hb ht
    have hin : ∀ x, f ≤ x → x < f + m → parGo x t f m (a :: ls) = ⟨f + m + (x - f) / 8, (x - f) % 8, 0⟩ := fun x hx1 hx2 => parGo_in hf hx1 hx2 (by omega)
    have hsk : ∀ x, f + m ≤ x → x ≤ t → parGo x t f m (a :: ls) = parGo x t (f + m) a ls := fun x hx1 hx2 => parGo_skip hf (by omega) hx1 (by omega)
    refine ⟨by rw [hsk t (by omega) (Int.le_refl _), i1], fun x hx1 hx2 => ?_, fun x y hx1 hx2 hy1 hy2 => ?_, fun z hz1 hz2 => ?_⟩
    · by_cases hx : x < f + m
      · rw [hin x hx1 hx]
        exact ⟨rfl, by show x < f + m + (x - f) / 8; omega, by show f + m ≤ f + m + (x - f) / 8; omega, by show f + m + (x - f) / 8 < hd; omega, by show 0 ≤ (x - f) % 8; omega, by show (x - f) % 8 < 8; omega⟩
      · rw [hsk x (by omega) (by omega)]
        obtain ⟨k1, k2, k3, k4, k5, k6⟩ := i2 x (by omega) hx2
        exact ⟨k1, k2, by omega, k4, k5, k6⟩
    · by_cases hx : x < f + m
      · by_cases hy : y < f + m
        · rw [hin x hx1 hx, hin y hy1 hy]
          dsimp only
          omega
        · rw [hin x hx1 hx, hsk y (by omega) (by omega)]
          have := (i2 y (by omega) hy2).lo
          dsimp only
          omega
      · by_cases hy : y < f + m
        · rw [hin y hy1 hy, hsk x (by omega) (by omega)]
          have := (i2 x (by omega) hx2).lo
          dsimp only
          omega
        · rw [hsk x (by omega) (by omega), hsk y (by omega) (by omega)]
          exact i3 x y (by omega) hx2 (by omega) hy2
    · by_cases hz : z < f + m + a
      · refine ⟨f + 8 * (z - f - m), by omega, by omega, ?_⟩
        rw [hin _ (by omega) (by omega)]
        dsimp only
        omega
      · obtain ⟨x, k1, k2, k3⟩ := i4 z (by omega) hz2
        exact ⟨x, by omega, k2, by rw [hsk x k1 (by omega)]; exact k3⟩
/-- All of it, for the whole plan. -/
structure Apt (p : Pn) : Prop where
  top : p.par p.top = ⟨0, 0, 5⟩
  led : ∀ x, 0 ≤ x → x < p.top → (p.par x).e = 0 ∧ x < (p.par x).block ∧ p.pages ≤ (p.par x).block ∧ (p.par x).block < p.head ∧ 0 ≤ (p.par x).at' ∧ (p.par x).at' < 16 ∧ (p.pages ≤ x → (p.par x).at' < 8)
  one : ∀ x y, 0 ≤ x → x < p.top → 0 ≤ y → y < p.top → (p.par x).block = (p.par y).block → (p.par x).at' = (p.par y).at' → x = y
  all : ∀ z, p.pages ≤ z → z < p.head → ∃ x, 0 ≤ x ∧ x < p.top ∧ (p.par x).block = z
  hd : p.head = p.top + 1 ∧ p.pages + 2 ≤ p.head ∧ p.head ≤ 5000
theorem Mad.apt {p : Pn} (h : Mad p) : Apt p := by
  have hpg := h.pg
  have hct := h.ct
  have hc := h.c1
  have hs := h.sum
  have hd := h.hd
  have hn := h.nd
  have ht := h.top
  have hsp : 1 ≤ sm p.levels := by
    have hl := (h.lv.pos hc.1)
    have hlen := h.len.1
    cases hlv : p.levels with
    | nil => rw [hlv] at hlen; simp at hlen
    | cons a l =>
      rw [hlv] at hl
      have h1 := hl.1 a List.mem_cons_self
      have h2 : LvC a l := by
        have := h.lv
        rw [hlv] at this
        exact this.2
      have h3 := (h2.pos h1).2
      show 1 ≤ a + sm l
      omega
  obtain ⟨i1, i2, i3, i4⟩ := go_led (t := p.top) (hd := p.head) p.levels p.pages p.counters (by omega) hc.1 h.lv (by omega) (by omega) (by omega)
  have hhi : ∀ x, p.pages ≤ x → x ≤ p.top → p.par x = parGo x p.top p.pages p.counters p.levels := fun x h1 h2 => h.par_hi x h1 (by omega)
  have hlo : ∀ x, 0 ≤ x → x < p.pages → p.par x = ⟨p.pages + x / 16, x % 16, 0⟩ := fun x h1 h2 => h.par_pg h1 h2
  refine ⟨by rw [hhi _ (by omega) (Int.le_refl _)]; exact i1, fun x h1 h2 => ?_, fun x y hx1 hx2 hy1 hy2 => ?_, fun z h1 h2 => ?_, by omega, by omega, by omega⟩
  · by_cases hx : x < p.pages
    · rw [hlo x h1 hx]
      dsimp only
      refine ⟨rfl, by omega, by omega, by omega, by omega, by omega, fun h => by omega⟩
    · rw [hhi x (by omega) (by omega)]
      obtain ⟨k1, k2, k3, k4, k5, k6⟩ := i2 x (by omega) h2
      exact ⟨k1, k2, by omega, k4, k5, by omega, fun _ => k6⟩
  · by_cases hx : x < p.pages
    · by_cases hy : y < p.pages
      · rw [hlo x hx1 hx, hlo y hy1 hy]
        dsimp only
        omega
      · rw [hlo x hx1 hx, hhi y (by omega) (by omega)]
        have := (i2 y (by omega) hy2).lo
        dsimp only
        omega
    · by_cases hy : y < p.pages
      · rw [hlo y hy1 hy, hhi x (by omega) (by omega)]
        have := (i2 x (by omega) hx2).lo
        dsimp only
        omega
      · rw [hhi x (by omega) (by omega), hhi y (by omega) (by omega)]
        exact i3 x y (by omega) hx2 (by omega) hy2
  · by_cases hz : z < p.pages + p.counters
    · refine ⟨16 * (z - p.pages), by omega, by omega, ?_⟩
      rw [hlo _ (by omega) (by omega)]
      dsimp only
      omega
    · obtain ⟨x, k1, k2, k3⟩ := i4 z (by omega) h2
      exact ⟨x, by omega, k2, by rw [hhi x k1 (by omega)]; exact k3⟩
/-- What was seen of a block, behind so many: a bit for each child. -/
def sv (p : Pn) : Nat → Int → Nat
  | 0, _ => 0
  | b + 1, k => if (b : Int) < p.top ∧ (p.par b).block = k then sv p b k ||| 2 ^ (p.par b).at'.toNat else sv p b k
theorem sv_bit (p : Pn) (k : Int) (i : Nat) : ∀ b : Nat, (sv p b k).testBit i = true ↔ ∃ x : Nat, x < b ∧ (x : Int) < p.top ∧ (p.par x).block = k ∧ (p.par x).at'.toNat = i
  | 0 => by
    unfold sv
    simp
  | b + 1 => by
    have ih := sv_bit p k i b
    unfold sv
    split
    · rename_i h
      rw [Nat.testBit_or, Bool.or_eq_true, ih, Nat.testBit_two_pow]
      constructor
      · rintro (⟨x, h1, h2⟩ | h1)
        · exact ⟨x, by omega, h2⟩
        · exact ⟨b, by omega, h.1, h.2, by simpa using h1⟩
      · rintro ⟨x, h1, h2, h3, h4⟩
        by_cases e : x = b
        · right; rw [← e]; simpa using h4
        · exact .inl ⟨x, by omega, h2, h3, h4⟩
    · rename_i h
      rw [ih]
      constructor
      · rintro ⟨x, h1, h2⟩
        exact ⟨x, by omega, h2⟩
      · rintro ⟨x, h1, h2, h3, h4⟩
        by_cases e : x = b
        · rw [e] at h2 h3; exact absurd ⟨h2, h3⟩ h
        · exact ⟨x, by omega, h2, h3, h4⟩
theorem sv_lt {p : Pn} (h : Apt p) (k : Int) : ∀ b : Nat, sv p b k < 65536
  | 0 => by unfold sv; decide
  | b + 1 => by
    have ih := sv_lt h k b
    unfold sv
    split
    · rename_i hb
      have h1 := h.led b (by omega) hb.1
      refine Nat.or_lt_two_pow (n := 16) ih ?_
      exact Nat.pow_lt_pow_right (by decide) (by omega)
    · exact ih
theorem sv_new {p : Pn} (h : Apt p) {b : Nat} (hb : (b : Int) < p.top) : (sv p b (p.par b).block).testBit (p.par b).at'.toNat = false := by
  cases hc : (sv p b (p.par b).block).testBit (p.par b).at'.toNat with
  | false => rfl
  | true =>
    obtain ⟨x, h1, h2, h3, h4⟩ := (sv_bit p _ _ b).1 hc
    have k1 := h.led b (by omega) hb
    have k2 := h.led x (by omega) h2
    have := h.one x b (by omega) h2 (by omega) hb h3 (by omega)
    omega
theorem sv_all {p : Pn} (h : Apt p) {hd : Nat} (hh : (hd : Int) = p.head) {z : Int} (h1 : p.pages ≤ z) (h2 : z < p.head) : sv p hd z ≠ 0 := fun h0 => by
  obtain ⟨x, k1, k2, k3⟩ := h.all z h1 h2
  have h3 := (sv_bit p z (p.par x).at'.toNat hd).2 ⟨x.toNat, by have := h.hd; omega, by omega, by rw [show ((x.toNat : Nat) : Int) = x by omega]; exact k3, by rw [show ((x.toNat : Nat) : Int) = x by omega]⟩
  rw [h0] at h3
  simp at h3
end Go.Proofs.Ytidblaepklgkcab
