/- The reference's reader: Take where nothing is left behind its place. -/
import Derived.Test.YtgffaekhhhkjcaaRowRefRead
namespace Go.Proofs.Ytgffaekhhhkjcaa
open Go.RowKit

set_option maxHeartbeats 1000000 in
theorem refTake_end {w : World} {x : Nat} {ao : Option Addr} {p : Nat} (h : Xr w x (.slice ao p p) p 0) (hl : p ≤ 140737488351232) :
    Calls Try.prog 21 #[.pointer (some ⟨x, 0, none⟩), .int .i64 0, .bool true] w fun e w' => ∃ v, e = .returned v ∧ Bs w' v [] ∧ (∀ j, v.ownBlock = some j → w.heap.size ≤ j) ∧ Xr w' x (.slice ao p p) p 0 ∧ But (· = x) w w' := by
  obtain ⟨c0, c1, c2, hz⟩ := h.cells
  have z1 := hz 1
  have HX : Hid (Xr w x (.slice ao p p) p 0) := h
  have HC : Hid (∀ d, Calls Try.prog 26 #[.slice ao 0 0] (w.drewN d) fun e w' => ∃ v', e = .returned v' ∧ Ow w' w.heap.size v' [] ∧ Below w.heap.size w w') := fun d => by
    have hb : Bs (w.drewN d) (.slice ao 0 0) [] := ⟨by simp, by simp, .inl ⟨rfl, by cases ao with
      | none => exact .inl rfl
      | some a => exact .inr ⟨a, 0, rfl⟩⟩⟩
    exact (copy_any hb (by simp)).mono fun e w' ⟨v', he, ho, hb⟩ => ⟨v', he, ho, (below_drewN (Below.refl _ _) d).trans hb⟩
  have hn' : ¬ (p : Int) - p < 0 := by omega
  have hwr : IntKind.i64.wrap (p : Int) = (p : Int) := by rw [IntKind.wrap_i64]; omega
  clear h hz
  go_enter Try.func21, Try.ntmps21
  go_wp2
  go_quiet (fail)
  go_wp2
  go_region_with (go_at_call 26; refine Calls.mono (HC.out _) ?_; rintro e w1 ⟨v1, rfl, hown1, hb1⟩)
  all_goals
    have hx1 : Xr w1 x (.slice ao p p) p 0 := HX.out.but (R := fun _ => False) (But.of hb1) (fun h => h)
    obtain ⟨_, d1, _, dz⟩ := hx1.cells
    have dz1 := dz 1
    obtain ⟨ao1, m1, cap1, rfl⟩ := hown1.slice
    have HGe : Hid (∀ j, (Value.slice ao1 m1 cap1).ownBlock = some j → w.heap.size ≤ j) := fun j e => (hown1.ge j e).1
    have HM : Hid (Xr (w1.setCell ⟨x, 1, none⟩ (.int .i64 (p : Nat))) x (.slice ao p p) p 0) := hx1.move p
    have HB : Hid (But (· = x) w (w1.setCell ⟨x, 1, none⟩ (.int .i64 (p : Nat)))) := (But.of (R := (· = x)) hb1).setCell (p := ⟨x, 1, none⟩) (fun _ => rfl) _
    have HO : Hid (Bs (w1.setCell ⟨x, 1, none⟩ (.int .i64 (p : Nat))) (.slice ao1 m1 cap1) []) := by
      have hge := hown1.ge
      have hxl := lt_of_block HX.out
      refine hown1.bs.but (R := (· = x)) ((But.refl (· = x) w1).setCell (p := ⟨x, 1, none⟩) (fun _ => rfl) _) (fun j e _ h => ?_)
      have := (hge j e).1
      omega
    clear hx1 hown1 hb1 dz HC c0 c1 c2
    go_wp2
    go_ret
    exact ⟨_, rfl, HO.out, HGe.out, HM.out, HB.out⟩

theorem refTake_ok {w : World} {x : Nat} {ao : Option Addr} {cap : Nat} {p : Nat} {xs : List Nat} (hv : Bs w (.slice ao xs.length cap) xs) (hl : xs.length ≤ 140737488351232) (h : Xr w x (.slice ao xs.length cap) p 0) (n : Nat) (hp : p + n ≤ xs.length) :
    Calls Try.prog 21 #[.pointer (some ⟨x, 0, none⟩), .int .i64 n, .bool true] w fun e w' => ∃ v, e = .returned v ∧ Bs w' v ((xs.drop p).take n) ∧ (∀ j, v.ownBlock = some j → w.heap.size ≤ j) ∧ Xr w' x (.slice ao xs.length cap) (p + n) 0 ∧ But (· = x) w w' := by
  have hc := hv.cap
  by_cases hpc : p < cap
  · cases ao with
    | none =>
      obtain ⟨_, _, e, hn, _⟩ := hv.gen
      simp only [Value.slice.injEq] at e
      obtain ⟨rfl, _, rfl⟩ := e
      have := (hn rfl).2
      omega
    | some a =>
      refine refTake_some h n hp hl hc hpc ?_
      have h1 := hv.drop (n := p) (a' := a.add p) (by omega) (.inl rfl)
      exact h1.take (by rw [List.length_drop]; omega) (fun e => by cases e)
  · have e1 : xs.length = p := by omega
    have e2 : cap = p := by omega
    have e3 : n = 0 := by omega
    subst e2 e3
    rw [e1] at h ⊢
    refine (refTake_end h (by omega)).mono ?_
    rintro e w' ⟨v, rfl, hb, hge, hx, hbut⟩
    exact ⟨v, rfl, by simpa using hb, hge, hx, hbut⟩
end Go.Proofs.Ytgffaekhhhkjcaa
