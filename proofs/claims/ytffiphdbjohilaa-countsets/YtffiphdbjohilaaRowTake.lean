/- row: Take. -/
import Derived.Test.YtffiphdbjohilaaRowRead
namespace Go.Proofs.Ytffiphdbjohilaa
open Go.RowKit

theorem Bs.take {w : World} {ao : Option Addr} {l cap n : Nat} {zs : List Nat} (h : Bs w (.slice ao l cap) zs) (hn : n ≤ zs.length) (hao : ao = none → cap = 0) : Bs w (.slice ao n cap) (zs.take n) := by
  obtain ⟨h1, h2, h3⟩ := h
  refine ⟨fun z hz => h1 z (List.mem_of_mem_take hz), by rw [List.length_take]; omega, ?_⟩
  by_cases h0 : n = 0
  · subst h0
    refine .inl ⟨rfl, ?_⟩
    cases ao with
    | none => rw [hao rfl]; exact .inl rfl
    | some a => exact .inr ⟨a, cap, rfl⟩
  · rcases h3 with ⟨rfl, _⟩ | ⟨_, b, off, cap', e, hcap, hb, hc⟩
    · simp at hn; omega
    · simp only [Value.slice.injEq] at e
      obtain ⟨rfl, _, rfl⟩ := e
      have hl : (zs.take n).length = n := by rw [List.length_take]; omega
      refine .inr ⟨by omega, b, off, cap, by rw [hl], by omega, hb, fun i hi => ?_⟩
      rw [hl] at hi
      rw [hc i (by omega)]
      simp [List.getD, hi]
theorem Bs.drop {w : World} {a a' : Addr} {l cap n : Nat} {zs : List Nat} (h : Bs w (.slice (some a) l cap) zs) (hn : n ≤ zs.length) (ha : a' = a.add n ∨ (a' = a ∧ n = zs.length)) : Bs w (.slice (some a') (zs.length - n) (cap - n)) (zs.drop n) := by
  obtain ⟨h1, h2, h3⟩ := h
  refine ⟨fun z hz => h1 z (List.mem_of_mem_drop hz), by rw [List.length_drop]; omega, ?_⟩
  by_cases h0 : n = zs.length
  · refine .inl ⟨List.drop_of_length_le (by omega), .inr ⟨a', cap - n, by rw [h0, Nat.sub_self]⟩⟩
  · rcases h3 with ⟨rfl, _⟩ | ⟨_, b, off, cap', e, hcap, hb, hc⟩
    · simp at hn h0; omega
    · simp only [Value.slice.injEq, Option.some.injEq] at e
      obtain ⟨rfl, _, rfl⟩ := e
      have ha' : a' = ⟨b, off + n, none⟩ := by
        rcases ha with ha | ha
        · rw [ha]; simp [Addr.add]
        · exact absurd ha.2 h0
      subst ha'
      refine .inr ⟨by rw [List.length_drop]; omega, b, off + n, cap - n, by rw [List.length_drop], by rw [List.length_drop]; omega, hb, fun i hi => ?_⟩
      rw [List.length_drop] at hi
      rw [Nat.add_assoc, hc (n + i) (by omega)]
      simp [List.getD, List.getElem?_drop]
theorem Bs.cap {w : World} {ao : Option Addr} {l cap : Nat} {zs : List Nat} (h : Bs w (.slice ao l cap) zs) : zs.length ≤ cap := by
  obtain ⟨_, _, ⟨rfl, _⟩ | ⟨_, b, off, cap', e, hcap, _⟩⟩ := h
  · simp
  · simp only [Value.slice.injEq] at e
    obtain ⟨_, _, rfl⟩ := e; exact hcap

theorem Rd.setRest {w : World} {r : Nat} {og : Option Nat} {zs zs' : List Nat} {f : Int} {v : Value} (h : Rd w r og zs f) (hv : Bs w v zs') (ho : ∀ k, v.ownBlock = some k → og = some k) (hs : zs'.length ≤ 140737488355328) :
    Rd (w.setCell ⟨r, 0, none⟩ v) r og zs' f ∧ But (· = r) w (w.setCell ⟨r, 0, none⟩ v) := by
  obtain ⟨⟨rest, hh, _, _⟩, h2, _⟩ := h
  have hb : But (· = r) w (w.setCell ⟨r, 0, none⟩ v) := (But.refl (· = r) w).setCell (p := ⟨r, 0, none⟩) (fun _ => rfl) v
  refine ⟨⟨⟨v, ?_, hv.but hb (fun j e _ => (h2 j (ho j e)).1), ho⟩, fun g e => ⟨(h2 g e).1, Nat.lt_of_lt_of_le (h2 g e).2 hb.size⟩, hs⟩, hb⟩
  rw [heap_setCell_same w r 0 _ _ v hh]; rfl
theorem Rd.down {w : World} {r : Nat} {og : Option Nat} {zs : List Nat} {f : Int} (h : Rd w r og zs f) (c : Int) : Rd (down w r c) r og [] c ∧ But (· = r) w (Ytffiphdbjohilaa.down w r c) := by
  obtain ⟨h1, b1⟩ := h.setRest (Bs.nil w) (fun k e => by cases e) (by simp)
  obtain ⟨⟨rest, hh, _, _⟩, h2, _⟩ := h1
  have hr : rest = .slice none 0 0 := by
    obtain ⟨⟨rest0, hh0, _, _⟩, _, _⟩ := h
    rw [heap_setCell_same w r 0 _ _ _ hh0] at hh
    simp at hh; exact hh.symm
  subst hr
  have hb : But (· = r) w (Ytffiphdbjohilaa.down w r c) := b1.setCell (p := ⟨r, 1, none⟩) (fun _ => rfl) _
  refine ⟨⟨⟨.slice none 0 0, ?_, Bs.nil _, fun k e => by cases e⟩, fun g e => ⟨(h2 g e).1, by have := (h2 g e).2; simpa [Ytffiphdbjohilaa.down] using this⟩, by simp⟩, hb⟩
  unfold Ytffiphdbjohilaa.down
  rw [heap_setCell_same _ r 1 _ _ _ hh]; rfl

theorem next_ok {w : World} {r : Nat} {og : Option Nat} {zs : List Nat} {f : Int} (h : Rd w r og zs f) (n : Nat) (hn : n ≤ zs.length) :
    Calls Try.prog 36 #[.pointer (some ⟨r, 0, none⟩), .int .i64 n] w fun e w' => ∃ v, e = .returned v ∧ Bs w' v (zs.take n) ∧ (∀ k, v.ownBlock = some k → og = some k) ∧ Rd w' r og (zs.drop n) f ∧ But (· = r) w w' := by
  obtain ⟨ao, cap, c0, _, z0, _, hb, ho⟩ := h.cells
  have hs := h.small
  cases ao with
  | none =>
    obtain ⟨ao', cap', e, hnn, _⟩ := hb.gen
    simp only [Value.slice.injEq] at e
    obtain ⟨rfl, _, rfl⟩ := e
    obtain ⟨hl, rfl⟩ := hnn rfl
    have := List.eq_nil_of_length_eq_zero hl
    subst this
    obtain rfl : n = 0 := by simpa using hn
    refine (next_none c0 z0).mono ?_
    rintro e w' ⟨rfl, rfl⟩
    obtain ⟨h1, h2⟩ := h.setRest (Bs.nil w) (fun k e => by cases e) (by simp)
    exact ⟨_, rfl, Bs.nil _, fun k e => (by cases e), h1, h2⟩
  | some a =>
    refine (next_some a n zs.length cap hn hb.cap c0 z0).mono ?_
    rintro e w' ⟨rfl, a', rfl, ha⟩
    have hblk : a'.block = a.block := by
      rcases ha with rfl | ⟨rfl, _⟩
      · unfold Addr.add; split <;> rfl
      · rfl
    obtain ⟨h1, h2⟩ := h.setRest (hb.drop hn ha) (fun k e => ho k (by have e' : some a'.block = some k := e; rw [hblk] at e'; exact e')) (by rw [List.length_drop]; omega)
    refine ⟨_, rfl, ?_, fun k e => ho k e, h1, h2⟩
    refine (hb.take hn (fun h => by cases h)).but h2 ?_
    intro j e _
    exact (h.og j (ho j e)).1
theorem next_no {w : World} {r : Nat} {og : Option Nat} {zs : List Nat} {f : Int} (h : Rd w r og zs f) (n : Int) (hn : (zs.length : Int) < n) :
    Calls Try.prog 36 #[.pointer (some ⟨r, 0, none⟩), .int .i64 n] w fun e w' => e = .panicked [{ v := .iface 24 (.int .i64 2), recovered := false }] ∧ w' = w := by
  obtain ⟨ao, cap, c0, _⟩ := h.cells
  exact next_short ao _ cap n hn c0

/-- The three variables that Take's step is handed. -/
def taken (w : World) (p : Option Addr) (n : Int) : World := ((w.alloc (.cells #[.pointer p] 53)).alloc (.cells #[.int .i64 n] 3)).alloc (.cells #[.slice none 0 0] 23)
theorem heap_size_alloc (w : World) (o : Obj) : (w.alloc o).heap.size = w.heap.size + 1 := by simp
theorem taken_below (w : World) (p : Option Addr) (n : Int) : Below w.heap.size w (taken w p n) := by
  refine (((Below.refl _ _).alloc (Nat.le_refl _) _).alloc ?_ _).alloc ?_ _ <;> simp <;> omega
theorem taken_size (w : World) (p : Option Addr) (n : Int) : (taken w p n).heap.size = w.heap.size + 3 := by simp [taken]
theorem taken_at (w : World) (p : Option Addr) (n : Int) : (taken w p n).heap[w.heap.size + 2]? = some (.cells #[.slice none 0 0] 23 (0, 0)) := by
  have := heap_alloc_new ((w.alloc (.cells #[.pointer p] 53)).alloc (.cells #[.int .i64 n] 3)) (.cells #[.slice none 0 0] 23)
  simpa [taken] using this

end Go.Proofs.Ytffiphdbjohilaa
