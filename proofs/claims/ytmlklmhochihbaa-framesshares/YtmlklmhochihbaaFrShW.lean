/- FramesShares: the calls on its table, with the law's two arrays beside it. -/
import Derived.Test.YtmlklmhochihbaaFrShMath
import Derived.Test.YtmlklmhochihbaaFrView
import Derived.Test.YtmlklmhochihbaaPickAny
import Derived.ProofKit
import Derived.OpenShut
import Derived.ChangeOld
import Derived.Below
namespace Go.Proofs.Ytmlklmhochihbaa
open Go.ChangeShapes Go.WideShapes Go.ChangeAt Go.RowKit

def arr5 (H : Nat → Int) : List Value := [.int .i64 (H 0), .int .i64 (H 1), .int .i64 (H 2), .int .i64 (H 3), .int .i64 (H 4)]
theorem arr5_at (H : Nat → Int) {t : Nat} (ht : t < 5) : (arr5 H)[t]? = some (.int .i64 (H t)) := by
  rcases (by omega : t = 0 ∨ t = 1 ∨ t = 2 ∨ t = 3 ∨ t = 4) with rfl | rfl | rfl | rfl | rfl <;> rfl
theorem arr5_set (H : Nat → Int) {t : Nat} (ht : t < 5) (x : Int) : (arr5 H).set t (.int .i64 x) = arr5 (setN H t x) := by
  rcases (by omega : t = 0 ∨ t = 1 ∨ t = 2 ∨ t = 3 ∨ t = 4) with rfl | rfl | rfl | rfl | rfl <;> rfl
theorem iFa : (Try.prog.info? 34).map (·.size) = some 6 := by kernel_rfl
def fz : List Value := [.int .i64 0, .int .i64 0, .int .i64 0, .slice none 0 0, .bool false, .float .f64 0]
theorem fac_one {w : World} {a : FA} (h : a.ok w) : ∀ u ∈ fac a, u.oneCell' = true := by
  intro u hu
  unfold fac at hu
  have := h.bs.one
  rcases List.mem_cons.1 hu with rfl | hu
  · rfl
  rcases List.mem_cons.1 hu with rfl | hu
  · rfl
  rcases List.mem_cons.1 hu with rfl | hu
  · rfl
  rcases List.mem_cons.1 hu with rfl | hu
  · exact this
  rcases List.mem_cons.1 hu with rfl | hu
  · rfl
  rcases List.mem_cons.1 hu with rfl | hu
  · rfl
  · cases hu
/-- What is at hand: the table, and the law's two arrays. -/
structure ShW (F : Nat → Prop) (w wr : World) (gt ga gb n i : Nat) (H P : Nat → Int) : Prop where
  ex : ∃ s, Fl F w wr gt s ∧ ShI n i s H P
  a : Blk wr ga 48 (arr5 H)
  b : Blk wr gb 48 (arr5 P)
  fa : F ga ∧ F gb ∧ ga ≠ gb ∧ w.heap.size ≤ ga ∧ w.heap.size ≤ gb
section
variable {F G : Nat → Prop} {w wr w' : World} {gt ga gb n i : Nat} {H P : Nat → Int}
theorem ShW.grow (h : ShW F w wr gt ga gb n i H P) (k : Grow wr w') : ShW F w w' gt ga gb n i H P := by
  obtain ⟨s, h1, h2⟩ := h.ex
  exact ⟨⟨s, h1.then k, h2⟩, h.a.but k (fun h => h), h.b.but k (fun h => h), h.fa⟩
theorem ShW.to {s' : St} {i' : Nat} {H' P' : Nat → Int} (h : ShW F w wr gt ga gb n i H P) (hf : Fl F w w' gt s') (hs : ShI n i' s' H' P') (k : But (Fo F w) wr w') : (∃ s, Fl F w w' gt s ∧ ShI n i' s H' P') ∧ Blk w' ga 48 (arr5 H) ∧ Blk w' gb 48 (arr5 P) :=
  ⟨⟨s', hf, hs⟩, h.a.but k (fun e => e.2 h.fa.1), h.b.but k (fun e => e.2 h.fa.2.1)⟩
theorem ShW.add (h : ShW F w wr gt ga gb n i H P) (k : Grow wr w') (hG : ∀ b, G b → F b ∨ (wr.heap.size ≤ b ∧ b < w'.heap.size)) (hF : ∀ b, F b → G b) : ShW G w w' gt ga gb n i H P := by
  obtain ⟨s, h1, h2⟩ := h.ex
  exact ⟨⟨s, h1.add k hG, h2⟩, h.a.but k (fun h => h), h.b.but k (fun h => h), hF _ h.fa.1, hF _ h.fa.2.1, h.fa.2.2⟩
theorem ShW.wgrow (h : ShW F w wr gt ga gb n i H P) : Grow w wr := by
  obtain ⟨s, h1, -⟩ := h.ex
  exact h1.grow
theorem sh_left (h : ShW F w wr gt ga gb n i H P) : Calls Try.prog 24 #[ptr gt] wr fun e w' => e = .returned (.int .i64 ((n : Int) - sum5 H)) ∧ w' = wr := by
  obtain ⟨s, h1, h2⟩ := h.ex
  have := fl_left h1
  unfold St.left at this
  rw [h2.most, h2.sum] at this
  exact this
theorem sh_victim (h : ShW F w wr gt ga gb n i H P) : Calls Try.prog 22 #[ptr gt] wr fun e w' => (∃ k c : Int, e = .returned (.tuple #[.int .i64 k, .int .i64 c]) ∧ (0 < sum5 H → c ≠ 12)) ∧ ShW F w w' gt ga gb n i H P := by
  obtain ⟨s, h1, h2⟩ := h.ex
  have hok := h1.ok
  refine (fl_victim h1).mono ?_
  rintro e w' ⟨rfl, h3, k⟩
  refine ⟨⟨_, _, rfl, fun h0 => ?_⟩, h.grow k⟩
  rcases h2.victim hok h0 with h4 | h4 <;> rw [h4.1] <;> decide
theorem sh_sum (h : ShW F w wr gt ga gb n i H P) : sum5 H ≤ n ∧ ∀ t, t < 5 → 0 ≤ H t ∧ H t ≤ n := by
  obtain ⟨s, h1, h2⟩ := h.ex
  have hs := h1.ok.sl
  rw [h2.sum, h2.most] at hs
  refine ⟨hs, fun t ht => ⟨(h2.lt t ht).2.1, ?_⟩⟩
  have a0 := h2.lt 0 (by omega); have a1 := h2.lt 1 (by omega); have a2 := h2.lt 2 (by omega); have a3 := h2.lt 3 (by omega); have a4 := h2.lt 4 (by omega)
  unfold sum5 at hs
  rcases (by omega : t = 0 ∨ t = 1 ∨ t = 2 ∨ t = 3 ∨ t = 4) with rfl | rfl | rfl | rfl | rfl <;> omega
/-- Reserve: granted or refused. -/
theorem sh_reserve {t : Nat} (h : ShW F w wr gt ga gb n i H P) (ht : t < 5) {x : Int} : Calls Try.prog 20 #[ptr gt, .int .i64 (t : Int), .int .i64 x] wr fun e w' => ∃ c : Int, e = .returned (.int .i64 c) ∧ But (Fo F w) wr w' ∧ (c ≠ 0 → ShW F w w' gt ga gb n i H P) ∧ (c = 0 → ShW F w (w'.setCell ⟨ga, t, none⟩ (.int .i64 x)) gt ga gb n i (setN H t x) P ∧ Blk w' ga 48 (arr5 H)) := by
  obtain ⟨s, h1, h2⟩ := h.ex
  have hok := h1.ok
  refine (fl_reserve h1 (t := (t : Int)) (n := x) (by unfold i64; omega)).mono ?_
  rintro e w' ⟨rfl, h3, k⟩
  refine ⟨_, rfl, k, fun hc => ?_, fun hc => ?_⟩
  · have e1 : s.res (t : Int) x = s := by unfold St.res; rw [if_neg hc]
    rw [e1] at h3
    obtain ⟨g1, g2, g3⟩ := h.to h3 h2 k
    exact ⟨g1, g2, g3, h.fa⟩
  · obtain ⟨g0, -⟩ := h2.res hok ht hc
    obtain ⟨-, g2, g3⟩ := h.to h3 g0 k
    have kk := But.set1 w' ga t (.int .i64 x)
    refine ⟨⟨⟨_, h3.turn kk (fun b e => by rw [e]; exact ⟨h.fa.1, h.fa.2.2.2.1⟩), g0⟩, ?_, g3.but kk (fun e => h.fa.2.2.1 e.symm), h.fa⟩, g2⟩
    rw [← arr5_set H ht]
    exact g2.set t _
/-- Free. -/
theorem sh_free {t : Nat} (h : ShW F w wr gt ga gb n i H P) (ht : t < 5) : Calls Try.prog 21 #[ptr gt, .int .i64 (t : Int)] wr fun e w' => e = .returned (.tuple #[]) ∧ But (Fo F w) wr w' ∧ Blk w' ga 48 (arr5 H) ∧ Blk (w'.setCell ⟨ga, t, none⟩ (.int .i64 0)) gb 48 (arr5 P) ∧ ShW F w ((w'.setCell ⟨ga, t, none⟩ (.int .i64 0)).setCell ⟨gb, t, none⟩ (.int .i64 0)) gt ga gb n i (setN H t 0) (setN P t 0) := by
  obtain ⟨s, h1, h2⟩ := h.ex
  have hok := h1.ok
  refine (fl_free h1 (t := (t : Int)) (by unfold i64; omega)).mono ?_
  rintro e w' ⟨rfl, h3, k⟩
  have g0 := h2.free hok ht
  obtain ⟨-, g2, g3⟩ := h.to h3 g0 k
  have k1 := But.set1 w' ga t (.int .i64 0)
  have k2 := But.set1 (w'.setCell ⟨ga, t, none⟩ (.int .i64 0)) gb t (.int .i64 0)
  have g4 := g3.but k1 (fun e => h.fa.2.2.1 e.symm)
  refine ⟨rfl, k, g2, g4, ⟨⟨_, (h3.turn k1 (fun b e => by rw [e]; exact ⟨h.fa.1, h.fa.2.2.2.1⟩)).turn k2 (fun b e => by rw [e]; exact ⟨h.fa.2.1, h.fa.2.2.2.2⟩), g0⟩, ?_, ?_, h.fa⟩⟩
  · rw [← arr5_set H ht]
    exact (g2.set t _).but k2 h.fa.2.2.1
  · rw [← arr5_set P ht]
    exact g4.set t _
/-- Room is made: a victim goes, if all frames are taken. -/
theorem sh_room (h : ShW F w wr gt ga gb n i H P) (h0 : 0 < sum5 H) : Calls Try.prog 22 #[ptr gt] wr fun e w' => ∃ k c : Int, e = .returned (.tuple #[.int .i64 k, .int .i64 c]) ∧ Grow wr w' ∧ ((c = 5 ∧ ∃ s, Fl F w w' gt s ∧ ShI n i s H P ∧ s.fr.length < s.most) ∨ (c = 0 ∧ Calls Try.prog 15 #[ptr gt, .int .i64 k] w' fun e w2 => e = .returned (.int .i64 0) ∧ But (Fo F w) w' w2 ∧ ∃ s, Fl F w w2 gt s ∧ ShI n i s H P ∧ s.fr.length < s.most)) := by
  obtain ⟨s, h1, h2⟩ := h.ex
  have hok := h1.ok
  refine (fl_victim h1).mono ?_
  rintro e w' ⟨rfl, h3, k⟩
  refine ⟨_, _, rfl, k, ?_⟩
  rcases h2.victim hok h0 with ⟨h4, h5⟩ | ⟨h4, h5, h6⟩
  · exact .inl ⟨h4, s, h3, h2, h5⟩
  · refine .inr ⟨h4, (fl_drop h3 h6).mono ?_⟩
    rintro e w2 ⟨rfl, h7, k2⟩
    obtain ⟨g1, g2⟩ := h2.drop h5
    refine ⟨by rw [h5], k2, _, h7, g1, ?_⟩
    have e1 : (s.drop s.vic).most = s.most := by unfold St.drop; split <;> rfl
    rw [e1]
    have := hok.le
    omega
/-- There is an empty frame. -/
def ShR (F : Nat → Prop) (w wr : World) (gt n i : Nat) (H P : Nat → Int) : Prop := ∃ s, Fl F w wr gt s ∧ ShI n i s H P ∧ s.fr.length < s.most
/-- A key that is new is put and pinned. -/
theorem sh_put (h : ShR F w wr gt n i H P) (hi : i ≤ 1000) {v : Value} {bs : List Nat} (hv : Bf wr (fun j => j < w.heap.size ∨ F j) v bs) (hl : bs.length ≤ 1000000) :
    Calls Try.prog 16 #[ptr gt, .int .i64 (1000 + (i : Int)), v, .bool false] wr fun e w' => e = .returned (.int .i64 0) ∧ But (Fo F w) wr w' ∧ ∀ t : Nat, t < 5 → P t + 1 < H t → Calls Try.prog 23 #[ptr gt, .int .i64 (t : Int), .int .i64 (1000 + (i : Int))] w' fun e w2 => e = .returned (.int .i64 0) ∧ But (Fo F w) w' w2 ∧ ∃ s, Fl F w w2 gt s ∧ ShI n (i + 1) s H (setN P t (P t + 1)) := by
  obtain ⟨s, h1, h2, h3⟩ := h
  obtain ⟨p1, p2, p3⟩ := h2.put (b := bs) h3
  refine (fl_put h1 (K := 1000 + (i : Int)) (q := false) (by unfold i64; omega) hv hl).mono ?_
  rintro e w' ⟨rfl, h4, k⟩
  refine ⟨by rw [p1], k, fun t ht hp => ?_⟩
  refine (fl_pin h4 (t := (t : Int)) (K := 1000 + (i : Int)) (by unfold i64; omega) (by unfold i64; omega) (by
    rw [p3]
    have := h2.pl
    show s.pins.length < _
    omega)).mono ?_
  rintro e w2 ⟨rfl, h5, k2⟩
  exact ⟨by rw [p2]; rfl, k2, _, h5, h2.pin h3 ht hp⟩
end
end Go.Proofs.Ytmlklmhochihbaa
