/- One reading, of the row's reader and of the reference's: the same step of the same state. -/
import Derived.Test.YtgffaekhhhkjcaaRowRefEnd
namespace Go.Proofs.Ytgffaekhhhkjcaa
open Go.RowKit

/-- What is left to read: nothing behind a fault. -/
def rest (xs : List Nat) (p : Nat) (f : Int) : List Nat := if f = 0 then xs.drop p else []
/-- A reading of n: what is told, and the place and the fault behind it. -/
def stp (xs : List Nat) (n : Int) (right : Bool) (p : Nat) (f : Int) : List Nat × Nat × Int :=
  if f ≠ 0 then ([], p, f) else if right = false then ([], p, 1) else if ((xs.length - p : Nat) : Int) < n then ([], p, 2) else ((xs.drop p).take n.toNat, p + n.toNat, 0)
theorem stp_at {xs : List Nat} {n : Int} {right : Bool} {p : Nat} {f : Int} (hp : p ≤ xs.length) (hr : right = true → 0 ≤ n) : (stp xs n right p f).2.1 ≤ xs.length := by
  unfold stp
  split
  · exact hp
  · split
    · exact hp
    · split
      · exact hp
      · have := hr (by simp_all)
        show p + n.toNat ≤ xs.length
        omega
theorem stp_len {xs : List Nat} {n : Int} {right : Bool} {p : Nat} {f : Int} (hr : right = true → n ≤ 8) : (stp xs n right p f).1.length ≤ 8 := by
  unfold stp
  split
  · simp
  · split
    · simp
    · split
      · simp
      · have := hr (by simp_all)
        show ((xs.drop p).take n.toNat).length ≤ 8
        rw [List.length_take]; omega

theorem refTake_stp {w : World} {x : Nat} {ao : Option Addr} {cap : Nat} {p : Nat} {f : Int} {xs : List Nat} (hv : Bs w (.slice ao xs.length cap) xs) (hl : xs.length ≤ 140737488351232) (h : Xr w x (.slice ao xs.length cap) p f) (hp : p ≤ xs.length) (n : Int) (right : Bool) (hr : right = true → 0 ≤ n) :
    Calls Try.prog 21 #[.pointer (some ⟨x, 0, none⟩), .int .i64 n, .bool right] w fun e w' => ∃ ao' m' cap', e = .returned (.slice ao' m' cap') ∧ Bs w' (.slice ao' m' cap') (stp xs n right p f).1 ∧ (∀ j, (Value.slice ao' m' cap').ownBlock = some j → w.heap.size ≤ j) ∧ Xr w' x (.slice ao xs.length cap) (stp xs n right p f).2.1 (stp xs n right p f).2.2 ∧ But (· = x) w w' := by
  by_cases hf : f ≠ 0
  · have e1 : stp xs n right p f = ([], p, f) := by unfold stp; rw [if_pos hf]
    rw [e1]
    exact (refTake_faulty h hf n right).mono fun e w' ⟨a, b, c⟩ => ⟨_, _, _, a, Bs.nil _, fun _ e => (by cases e), b, c⟩
  · have hf0 : f = 0 := by omega
    subst hf0
    cases right with
    | false =>
      have e1 : stp xs n false p 0 = ([], p, 1) := by unfold stp; simp
      rw [e1]
      exact (refTake_arg h n).mono fun e w' ⟨a, b, c⟩ => ⟨_, _, _, a, Bs.nil _, fun _ e => (by cases e), b, c⟩
    | true =>
      have hn := hr rfl
      by_cases hs : ((xs.length - p : Nat) : Int) < n
      · have e1 : stp xs n true p 0 = ([], p, 2) := by unfold stp; rw [if_neg hf, if_neg (by simp), if_pos hs]
        rw [e1]
        exact (refTake_short h n hp hl hs).mono fun e w' ⟨a, b, c⟩ => ⟨_, _, _, a, Bs.nil _, fun _ e => (by cases e), b, c⟩
      · have e1 : stp xs n true p 0 = ((xs.drop p).take n.toNat, p + n.toNat, 0) := by unfold stp; rw [if_neg hf, if_neg (by simp), if_neg hs]
        rw [e1]
        obtain ⟨m, rfl⟩ : ∃ m : Nat, n = m := ⟨n.toNat, by omega⟩
        have e2 : ((m : Int)).toNat = m := by omega
        rw [e2]
        refine (refTake_ok hv hl h m (by omega)).mono ?_
        rintro e w' ⟨v, rfl, hb, hge, hx, hbut⟩
        obtain ⟨a', c', rfl, _⟩ := hb.gen
        exact ⟨_, _, _, rfl, hb, hge, hx, hbut⟩

theorem take_stp {w : World} {r : Nat} {og : Option Nat} {p : Nat} {f : Int} {xs : List Nat} (h : Rd w r og (rest xs p f) f) (n : Int) :
    Calls Try.prog 16 #[.pointer (some ⟨r, 0, none⟩), .int .i64 n] w fun e w' => ∃ ao' m' cap', e = .returned (.slice ao' m' cap') ∧ Ow w' w.heap.size (.slice ao' m' cap') (stp xs n (decide (0 ≤ n)) p f).1 ∧ Rd w' r og (rest xs (stp xs n (decide (0 ≤ n)) p f).2.1 (stp xs n (decide (0 ≤ n)) p f).2.2) (stp xs n (decide (0 ≤ n)) p f).2.2 ∧ But (· = r) w w' := by
  by_cases hf : f ≠ 0
  · have e1 : stp xs n (decide (0 ≤ n)) p f = ([], p, f) := by unfold stp; rw [if_pos hf]
    rw [e1]
    exact (take_faulty h hf n).mono fun e w' ⟨a, b⟩ => ⟨_, _, _, a, Ow.nil _ _, h.below b, But.of b⟩
  · have hf0 : f = 0 := by omega
    subst hf0
    have hr0 : rest xs p 0 = xs.drop p := by unfold rest; rw [if_pos rfl]
    rw [hr0] at h
    by_cases hn : 0 ≤ n
    · rw [decide_eq_true hn]
      by_cases hs : ((xs.length - p : Nat) : Int) < n
      · have e1 : stp xs n true p 0 = ([], p, 2) := by unfold stp; rw [if_neg hf, if_neg (by simp), if_pos hs]
        rw [e1]
        exact (take_bad h n 2 (.inr ⟨by rw [List.length_drop]; exact hs, rfl⟩)).mono fun e w' ⟨a, b, c⟩ => ⟨_, _, _, a, Ow.nil _ _, b, c⟩
      · have e1 : stp xs n true p 0 = ((xs.drop p).take n.toNat, p + n.toNat, 0) := by unfold stp; rw [if_neg hf, if_neg (by simp), if_neg hs]
        rw [e1]
        obtain ⟨m, rfl⟩ : ∃ m : Nat, n = m := ⟨n.toNat, by omega⟩
        have e2 : ((m : Int)).toNat = m := by omega
        rw [e2]
        refine (take_ok h m (by rw [List.length_drop]; omega)).mono ?_
        rintro e w' ⟨v, rfl, ho, hd, hbut⟩
        obtain ⟨a', m', c', rfl⟩ := ho.slice
        have e3 : rest xs (p + m) 0 = (xs.drop p).drop m := by unfold rest; rw [if_pos rfl, List.drop_drop]
        exact ⟨_, _, _, rfl, ho, by show Rd _ _ _ (rest xs (p + m) 0) 0; rw [e3]; exact hd, hbut⟩
    · rw [decide_eq_false hn]
      have e1 : stp xs n false p 0 = ([], p, 1) := by unfold stp; simp
      rw [e1]
      exact (take_bad h n 1 (.inl ⟨by omega, rfl⟩)).mono fun e w' ⟨a, b, c⟩ => ⟨_, _, _, a, Ow.nil _ _, b, c⟩

theorem num_stp {w : World} {r : Nat} {og : Option Nat} {p : Nat} {f : Int} {xs : List Nat} (h : Rd w r og (rest xs p f) f) (n : Int) :
    Calls Try.prog 17 #[.pointer (some ⟨r, 0, none⟩), .int .i64 n] w fun e w' => e = .returned (.int .u64 (val (stp xs n (decide (1 ≤ n ∧ n ≤ 8)) p f).1 : Nat)) ∧ Rd w' r og (rest xs (stp xs n (decide (1 ≤ n ∧ n ≤ 8)) p f).2.1 (stp xs n (decide (1 ≤ n ∧ n ≤ 8)) p f).2.2) (stp xs n (decide (1 ≤ n ∧ n ≤ 8)) p f).2.2 ∧ But (· = r) w w' := by
  by_cases hf : f ≠ 0
  · have e1 : stp xs n (decide (1 ≤ n ∧ n ≤ 8)) p f = ([], p, f) := by unfold stp; rw [if_pos hf]
    rw [e1]
    exact (num_faulty h hf n).mono fun e w' ⟨a, b⟩ => ⟨a, h.below b, But.of b⟩
  · have hf0 : f = 0 := by omega
    subst hf0
    have hr0 : rest xs p 0 = xs.drop p := by unfold rest; rw [if_pos rfl]
    rw [hr0] at h
    by_cases hn : 1 ≤ n ∧ n ≤ 8
    · rw [decide_eq_true hn]
      by_cases hs : ((xs.length - p : Nat) : Int) < n
      · have e1 : stp xs n true p 0 = ([], p, 2) := by unfold stp; rw [if_neg hf, if_neg (by simp), if_pos hs]
        rw [e1]
        exact (num_bad h n 2 (.inr ⟨hn, by rw [List.length_drop]; exact hs, rfl⟩)).mono fun e w' ⟨a, b, c⟩ => ⟨a, b, c⟩
      · have e1 : stp xs n true p 0 = ((xs.drop p).take n.toNat, p + n.toNat, 0) := by unfold stp; rw [if_neg hf, if_neg (by simp), if_neg hs]
        rw [e1]
        obtain ⟨m, rfl⟩ : ∃ m : Nat, n = m := ⟨n.toNat, by omega⟩
        have e2 : ((m : Int)).toNat = m := by omega
        rw [e2]
        refine (num_ok h m (by omega) (by omega) (by rw [List.length_drop]; omega)).mono ?_
        rintro e w' ⟨rfl, hd, hbut⟩
        have e3 : rest xs (p + m) 0 = (xs.drop p).drop m := by unfold rest; rw [if_pos rfl, List.drop_drop]
        exact ⟨rfl, by show Rd _ _ _ (rest xs (p + m) 0) 0; rw [e3]; exact hd, hbut⟩
    · rw [decide_eq_false hn]
      have e1 : stp xs n false p 0 = ([], p, 1) := by unfold stp; simp
      rw [e1]
      exact (num_bad h n 1 (.inl ⟨hn, rfl⟩)).mono fun e w' ⟨a, b, c⟩ => ⟨a, b, c⟩

theorem refLeft_stp {w : World} {x : Nat} {ao : Option Addr} {cap : Nat} {p : Nat} {f : Int} {xs : List Nat} (h : Xr w x (.slice ao xs.length cap) p f) (hp : p ≤ xs.length) (hl : xs.length ≤ 140737488351232) :
    Calls Try.prog 22 #[.pointer (some ⟨x, 0, none⟩)] w fun e w' => e = .returned (.int .i64 ((rest xs p f).length : Nat)) ∧ ∃ d, w' = w.drewN d := by
  by_cases hf : f = 0
  · subst hf
    have hr0 : (rest xs p 0).length = xs.length - p := by unfold rest; rw [if_pos rfl, List.length_drop]
    rw [hr0]
    exact refLeft_ok h hp hl
  · have hr0 : rest xs p f = [] := by unfold rest; rw [if_neg hf]
    rw [hr0]
    exact refLeft_bad h hf
theorem refEnd_stp {w : World} {x : Nat} {ao : Option Addr} {cap : Nat} {p : Nat} {f : Int} {xs : List Nat} (h : Xr w x (.slice ao xs.length cap) p f) (hp : p ≤ xs.length) (hl : xs.length ≤ 140737488351232) :
    Calls Try.prog 24 #[.pointer (some ⟨x, 0, none⟩)] w fun e w' => e = .returned (.int .i64 (if f = 0 then (if (rest xs p f).length = 0 then 0 else 4) else f)) ∧ ∃ d, w' = w.drewN d := by
  by_cases hf : f = 0
  · subst hf
    have hr0 : (rest xs p 0).length = xs.length - p := by unfold rest; rw [if_pos rfl, List.length_drop]
    rw [hr0, if_pos rfl]
    exact refEnd_ok h hp hl
  · rw [if_neg hf]
    exact refEnd_bad h hf
end Go.Proofs.Ytgffaekhhhkjcaa
