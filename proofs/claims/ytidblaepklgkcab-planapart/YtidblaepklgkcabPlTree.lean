/- Plans that Of made: parents and paths, as numbers. -/
import Derived.Test.YtidblaepklgkcabPlClimb
namespace Go.Proofs.Ytidblaepklgkcab
open Go.RowKit

/-- Each level has one node for each eight below it begun; the last one has one. -/
def LvC : Int → List Int → Prop
  | m, [] => m = 1
  | m, a :: ls => a = (m + 7) / 8 ∧ LvC a ls
def sm : List Int → Int
  | [] => 0
  | a :: l => a + sm l
theorem LvC.pos : ∀ {ls : List Int} {m : Int}, 1 ≤ m → LvC m ls → (∀ a ∈ ls, 1 ≤ a) ∧ 0 ≤ sm ls
  | [], _, _, _ => ⟨nofun, Int.le_refl 0⟩
  | a :: ls, m, hm, h => by
    obtain ⟨h1, h2⟩ := h
    have ha : 1 ≤ a := by omega
    have h3 := LvC.pos ha h2
    refine ⟨fun b hb => ?_, by unfold sm; omega⟩
    rcases List.mem_cons.1 hb with rfl | hb
    · exact ha
    · exact h3.1 b hb
/-- A plan that Of made. -/
structure Mad (p : Pn) : Prop where
  pg : 1 ≤ p.pages ∧ p.pages ≤ 4096
  ct : p.counters = (p.pages + 15) / 16
  lv : LvC p.counters p.levels
  nd : p.nodes = sm p.levels
  sum : sm p.levels ≤ 37
  hd : p.head = p.pages + p.counters + p.nodes
  len : 1 ≤ p.levels.length ∧ p.levels.length ≤ 3
theorem sm_toI (l : List Nat) : sm (toI l) = (l.sum : Nat) := by
  induction l with
  | nil => rfl
  | cons a l ih =>
    show (a : Int) + sm (toI l) = _
    rw [ih, List.sum_cons]
    omega
theorem plan_mad {n b : Nat} (h1 : 1 ≤ n) (h2 : n ≤ 4096) : Mad (plan n b) := by
  have hc1 : 1 ≤ bg n 16 := by unfold bg; omega
  have hc2 : bg n 16 ≤ 256 := by unfold bg; omega
  have hl := lvs_le hc1 hc2
  refine ⟨?_, ?_, ?_, ?_, ?_, ?_, ?_⟩
  · show 1 ≤ (n : Int) ∧ (n : Int) ≤ 4096
    omega
  · show ((bg n 16 : Nat) : Int) = ((n : Int) + 15) / 16
    unfold bg; omega
  · show LvC ((bg n 16 : Nat) : Int) (toI (lvs (bg n 16)))
    generalize bg n 16 = c at hc1 hc2
    rcases lvs_shape hc1 hc2 with ⟨a, e⟩ | ⟨a, b, e⟩ | ⟨a, e⟩
    · rw [e]
      exact ⟨by show (1 : Int) = _; omega, rfl⟩
    · rw [e]
      refine ⟨?_, ?_, rfl⟩
      · show ((bg c 8 : Nat) : Int) = _; unfold bg; omega
      · show (1 : Int) = (((bg c 8 : Nat) : Int) + 7) / 8; unfold bg; omega
    · rw [e]
      refine ⟨?_, ?_, ?_, rfl⟩
      · show ((bg c 8 : Nat) : Int) = _; unfold bg; omega
      · show ((bg (bg c 8) 8 : Nat) : Int) = (((bg c 8 : Nat) : Int) + 7) / 8; unfold bg; omega
      · show (1 : Int) = (((bg (bg c 8) 8 : Nat) : Int) + 7) / 8; unfold bg; omega
  · show (((lvs (bg n 16)).sum : Nat) : Int) = sm (toI (lvs (bg n 16)))
    rw [sm_toI]
  · show sm (toI (lvs (bg n 16))) ≤ 37
    rw [sm_toI]
    have := hl.2.2.1
    omega
  · show ((n + bg n 16 + (lvs (bg n 16)).sum : Nat) : Int) = (n : Int) + (bg n 16 : Nat) + ((lvs (bg n 16)).sum : Nat)
    omega
  · show 1 ≤ (toI (lvs (bg n 16))).length ∧ (toI (lvs (bg n 16))).length ≤ 3
    rw [toI_len]
    exact ⟨hl.2.1, hl.1⟩
theorem Mad.c1 {p : Pn} (h : Mad p) : 1 ≤ p.counters ∧ p.counters ≤ 256 := by
  have := h.ct
  have := h.pg
  omega
theorem Mad.top {p : Pn} (h : Mad p) : p.top = p.pages + p.counters + sm p.levels - 1 := by
  have := h.pg
  have := h.c1
  have := h.nd
  have h3 := (h.lv.pos h.c1.1).2
  have := h.sum
  unfold Pn.top
  rw [ad_ok (a := p.pages) (b := p.counters) (by omega) (by omega), ad_ok (by omega) (by omega), sb_ok (by omega) (by omega)]
  omega
theorem dv_ok {a b : Int} (h0 : 0 ≤ a) (h1 : a ≤ 9223372036854775807) (hb : 1 ≤ b) : dv a b = a / b := by
  unfold dv
  rw [Int.tdiv_eq_ediv_of_nonneg h0]
  have h2 : 0 ≤ a / b := Int.ediv_nonneg h0 (by omega)
  have h3 : a / b ≤ a := Int.ediv_le_self b h0
  exact wrapI (by omega) (by omega)
/-- A level is passed by. -/
theorem parGo_skip {x t f m a : Int} {ls : List Int} (hf : 0 ≤ f) (hm : 0 ≤ m) (hx : f + m ≤ x) (h2 : x ≤ 9223372036854775807) : parGo x t f m (a :: ls) = parGo x t (f + m) a ls := by
  rw [parGo_cons, sb_ok (by omega) (by omega), if_neg (by omega), ad_ok (by omega) (by omega)]
theorem parGo_in {x t f m a : Int} {ls : List Int} (hf : 0 ≤ f) (hx : f ≤ x) (hm : x < f + m) (h2 : f + m ≤ 1000000) : parGo x t f m (a :: ls) = ⟨f + m + (x - f) / 8, (x - f) % 8, 0⟩ := by
  rw [parGo_cons, sb_ok (by omega) (by omega), if_pos (by omega), dv_ok (by omega) (by omega) (by decide), ad_ok (a := f) (b := m) (by omega) (by omega), ad_ok (by omega) (by omega), Int.tmod_eq_emod_of_nonneg (by omega)]
/-- The blocks that Parent leads to. -/
def chn (p : Pn) : Int → List Int → Prop
  | x, [] => (p.par x).e ≠ 0
  | x, y :: l => (p.par x).e = 0 ∧ (p.par x).block = y ∧ chn p y l
theorem chn_det {p : Pn} : ∀ {l m : List Int} {x : Int}, chn p x l → chn p x m → l = m
  | [], [], _, _, _ => rfl
  | [], y :: m, _, h, k => absurd k.1 h
  | y :: l, [], _, h, k => absurd h.1 k
  | y :: l, z :: m, x, h, k => by
    have e : y = z := h.2.1.symm.trans k.2.1
    subst e
    rw [chn_det h.2.2 k.2.2]
theorem chn_at {p : Pn} : ∀ {A B : List Int} {x y : Int}, chn p x (A ++ y :: B) → chn p y B
  | [], _, _, _, h => h.2.2
  | _ :: A, _, _, _, h => chn_at (A := A) h.2.2
/-- What a path has, from a level on. -/
structure Pth (p : Pn) (f : Int) (l : List Int) (ls : List Int) : Prop where
  ge : ∀ y ∈ l, f ≤ y ∧ y < p.head
  len : l.length = ls.length + 1
  last : l.getLast? = some (p.head - 1)
theorem climb_chn {p : Pn} (h : Mad p) : ∀ (ls : List Int) (a f m : Int), 0 ≤ f → 0 ≤ a → a < m → LvC m ls → f + m + sm ls = p.head → f + m + sm ls ≤ 1000000 →
    (∀ y, f ≤ y → y ≤ 9223372036854775807 → p.par y = parGo y p.top f m ls) → (∀ x, (p.par x).e = 0 → (p.par x).block = f + a → chn p x (climbL a f m ls)) ∧ Pth p f (climbL a f m ls) ls
  | [], a, f, m, hf, ha, ham, hl, hh, hb, hp => by
    have hm : m = 1 := hl
    have ha0 : a = 0 := by omega
    have ht := h.top
    have hd := h.hd
    have hn := h.nd
    unfold sm at hh hb
    have e1 : climbL a f m [] = [f] := by
      show [ad f a] = [f]
      rw [ad_ok (by omega) (by omega), ha0, Int.add_zero]
    rw [e1]
    refine ⟨fun x h1 h2 => ⟨h1, by omega, ?_⟩, ⟨fun y hy => ?_, rfl, ?_⟩⟩
    · show (p.par f).e ≠ 0
      rw [hp f (Int.le_refl _) (by omega), parGo_nil, if_pos (by omega)]
      decide
    · rw [show y = f by simpa using hy]; omega
    · show some f = some (p.head - 1)
      congr 1; omega
  | b :: ls, a, f, m, hf, ha, ham, hl, hh, hb, hp => by
    obtain ⟨h1, h2⟩ := hl
    have h3 := LvC.pos (by omega) h2
    unfold sm at hh hb
    have e1 : climbL a f m (b :: ls) = (f + a) :: climbL (a / 8) (f + m) b ls := by
      show ad f a :: climbL (dv a 8) (ad f m) b ls = _
      rw [ad_ok (by omega) (by omega), ad_ok (by omega) (by omega), dv_ok ha (by omega) (by decide)]
    rw [e1]
    have ih := climb_chn h ls (a / 8) (f + m) b (by omega) (by omega) (by omega) h2 (by omega) (by omega) (fun y hy hy2 => by rw [hp y (by omega) hy2, parGo_skip hf (by omega) hy hy2])
    have hpar : p.par (f + a) = ⟨f + m + (f + a - f) / 8, (f + a - f) % 8, 0⟩ := by
      rw [hp (f + a) (by omega) (by omega), parGo_in hf (by omega) (by omega) (by omega)]
    refine ⟨fun x hx1 hx2 => ⟨hx1, hx2, ih.1 (f + a) (by rw [hpar]) ?_⟩, ⟨fun y hy => ?_, by rw [List.length_cons, ih.2.len, List.length_cons], ?_⟩⟩
    · rw [hpar]
      show f + m + (f + a - f) / 8 = f + m + a / 8
      congr 2; omega
    · rcases List.mem_cons.1 hy with rfl | hy
      · omega
      · have := ih.2.ge y hy
        omega
    · have hl := ih.2.last
      rw [List.getLast?_cons, hl]; rfl
theorem Mad.par_hi {p : Pn} (h : Mad p) : ∀ y, p.pages ≤ y → y ≤ 9223372036854775807 → p.par y = parGo y p.top p.pages p.counters p.levels := fun y hy _ => by
  have := h.pg
  unfold Pn.par
  rw [if_neg (by omega), if_neg (by omega)]
theorem Mad.par_pg {p : Pn} (h : Mad p) {x : Int} (h0 : 0 ≤ x) (h1 : x < p.pages) : p.par x = ⟨p.pages + x / 16, x % 16, 0⟩ := by
  have := h.pg
  unfold Pn.par
  rw [if_neg (by omega), if_pos h1, dv_ok h0 (by omega) (by decide), ad_ok (by omega) (by omega)]
theorem Mad.path {p : Pn} (h : Mad p) {x : Int} (hx : p.has x = true) : chn p x (p.path x) ∧ Pth p p.pages (p.path x) p.levels := by
  have h0 := of_decide_eq_true hx
  have hpg := h.pg
  have hct := h.ct
  have hc := h.c1
  have hs := h.sum
  have hd := h.hd
  have hn := h.nd
  have hpar := h.par_pg h0.1 h0.2
  have key := climb_chn h p.levels (x / 16) p.pages p.counters (by omega) (by omega) (by omega) h.lv (by omega) (by omega) h.par_hi
  unfold Pn.path
  rw [dv_ok h0.1 (by omega) (by decide)]
  exact ⟨key.1 x (by rw [hpar]) (by rw [hpar]), key.2⟩
end Go.Proofs.Ytidblaepklgkcab
