/- row: Take. -/
import Derived.Test.YtgffaekhhhkjcaaRowRead
namespace Go.Proofs.Ytgffaekhhhkjcaa
open Go.RowKit

theorem Bs.take {w : World} {ao : Option Addr} {l cap n : Nat} {zs : List Nat} (h : Bs w (.slice ao l cap) zs) (hn : n ≤ zs.length) (hao : ao = none → cap = 0) : Bs w (.slice ao n cap) (zs.take n) := by
  obtain ⟨h1, h2, h3⟩ := h
  refine ⟨fun z hz => h1 z (List.mem_of_mem_take hz), by rw [List.length_take]; omega, ?_⟩
  by_cases h0 : n = 0
  · subst h0
    refine .inl ⟨rfl, ?_⟩
    cases ao with
    | none => rw [hao rfl]; exact .inl rfl
    | some a => exact .inr ⟨a, cap, rfl⟩
  · rcases h3 with ⟨rfl, _⟩ | ⟨_, b, off, cap', e, hcap, hb, hc⟩
    · simp at hn; omega
    · simp only [Value.slice.injEq] at e
      obtain ⟨rfl, _, rfl⟩ := e
      have hl : (zs.take n).length = n := by rw [List.length_take]; omega
      refine .inr ⟨by omega, b, off, cap, by rw [hl], by omega, hb, fun i hi => ?_⟩
      rw [hl] at hi
      rw [hc i (by omega)]
      simp [List.getD, hi]
theorem Bs.drop {w : World} {a a' : Addr} {l cap n : Nat} {zs : List Nat} (h : Bs w (.slice (some a) l cap) zs) (hn : n ≤ zs.length) (ha : a' = a.add n ∨ (a' = a ∧ n = zs.length)) : Bs w (.slice (some a') (zs.length - n) (cap - n)) (zs.drop n) := by
  obtain ⟨h1, h2, h3⟩ := h
  refine ⟨fun z hz => h1 z (List.mem_of_mem_drop hz), by rw [List.length_drop]; omega, ?_⟩
  by_cases h0 : n = zs.length
  · refine .inl ⟨List.drop_of_length_le (by omega), .inr ⟨a', cap - n, by rw [h0, Nat.sub_self]⟩⟩
  · rcases h3 with ⟨rfl, _⟩ | ⟨_, b, off, cap', e, hcap, hb, hc⟩
    · simp at hn h0; omega
    · simp only [Value.slice.injEq, Option.some.injEq] at e
      obtain ⟨rfl, _, rfl⟩ := e
      have ha' : a' = ⟨b, off + n, none⟩ := by
        rcases ha with ha | ha
        · rw [ha]; simp [Addr.add]
        · exact absurd ha.2 h0
      subst ha'
      refine .inr ⟨by rw [List.length_drop]; omega, b, off + n, cap - n, by rw [List.length_drop], by rw [List.length_drop]; omega, hb, fun i hi => ?_⟩
      rw [List.length_drop] at hi
      rw [Nat.add_assoc, hc (n + i) (by omega)]
      simp [List.getD, List.getElem?_drop]
theorem Bs.cap {w : World} {ao : Option Addr} {l cap : Nat} {zs : List Nat} (h : Bs w (.slice ao l cap) zs) : zs.length ≤ cap := by
  obtain ⟨_, _, ⟨rfl, _⟩ | ⟨_, b, off, cap', e, hcap, _⟩⟩ := h
  · simp
  · simp only [Value.slice.injEq] at e
    obtain ⟨_, _, rfl⟩ := e; exact hcap

theorem Rd.setRest {w : World} {r : Nat} {og : Option Nat} {zs zs' : List Nat} {f : Int} {v : Value} (h : Rd w r og zs f) (hv : Bs w v zs') (ho : ∀ k, v.ownBlock = some k → og = some k) (hs : zs'.length ≤ 140737488355328) :
    Rd (w.setCell ⟨r, 0, none⟩ v) r og zs' f ∧ But (· = r) w (w.setCell ⟨r, 0, none⟩ v) := by
  obtain ⟨⟨rest, hh, _, _⟩, h2, _⟩ := h
  have hb : But (· = r) w (w.setCell ⟨r, 0, none⟩ v) := (But.refl (· = r) w).setCell (p := ⟨r, 0, none⟩) (fun _ => rfl) v
  refine ⟨⟨⟨v, ?_, hv.but hb (fun j e _ => (h2 j (ho j e)).1), ho⟩, fun g e => ⟨(h2 g e).1, Nat.lt_of_lt_of_le (h2 g e).2 hb.size⟩, hs⟩, hb⟩
  rw [heap_setCell_same w r 0 _ _ v hh]; rfl
theorem Rd.down {w : World} {r : Nat} {og : Option Nat} {zs : List Nat} {f : Int} (h : Rd w r og zs f) (c : Int) : Rd (down w r c) r og [] c ∧ But (· = r) w (Ytgffaekhhhkjcaa.down w r c) := by
  obtain ⟨h1, b1⟩ := h.setRest (Bs.nil w) (fun k e => by cases e) (by simp)
  obtain ⟨⟨rest, hh, _, _⟩, h2, _⟩ := h1
  have hr : rest = .slice none 0 0 := by
    obtain ⟨⟨rest0, hh0, _, _⟩, _, _⟩ := h
    rw [heap_setCell_same w r 0 _ _ _ hh0] at hh
    simp at hh; exact hh.symm
  subst hr
  have hb : But (· = r) w (Ytgffaekhhhkjcaa.down w r c) := b1.setCell (p := ⟨r, 1, none⟩) (fun _ => rfl) _
  refine ⟨⟨⟨.slice none 0 0, ?_, Bs.nil _, fun k e => by cases e⟩, fun g e => ⟨(h2 g e).1, by have := (h2 g e).2; simpa [Ytgffaekhhhkjcaa.down] using this⟩, by simp⟩, hb⟩
  unfold Ytgffaekhhhkjcaa.down
  rw [heap_setCell_same _ r 1 _ _ _ hh]; rfl

theorem next_ok {w : World} {r : Nat} {og : Option Nat} {zs : List Nat} {f : Int} (h : Rd w r og zs f) (n : Nat) (hn : n ≤ zs.length) :
    Calls Try.prog 30 #[.pointer (some ⟨r, 0, none⟩), .int .i64 n] w fun e w' => ∃ v, e = .returned v ∧ Bs w' v (zs.take n) ∧ (∀ k, v.ownBlock = some k → og = some k) ∧ Rd w' r og (zs.drop n) f ∧ But (· = r) w w' := by
  obtain ⟨ao, cap, c0, _, z0, _, hb, ho⟩ := h.cells
  have hs := h.small
  cases ao with
  | none =>
    obtain ⟨ao', cap', e, hnn, _⟩ := hb.gen
    simp only [Value.slice.injEq] at e
    obtain ⟨rfl, _, rfl⟩ := e
    obtain ⟨hl, rfl⟩ := hnn rfl
    have := List.eq_nil_of_length_eq_zero hl
    subst this
    obtain rfl : n = 0 := by simpa using hn
    refine (next_none c0 z0).mono ?_
    rintro e w' ⟨rfl, rfl⟩
    obtain ⟨h1, h2⟩ := h.setRest (Bs.nil w) (fun k e => by cases e) (by simp)
    exact ⟨_, rfl, Bs.nil _, fun k e => (by cases e), h1, h2⟩
  | some a =>
    refine (next_some a n zs.length cap hn hb.cap c0 z0).mono ?_
    rintro e w' ⟨rfl, a', rfl, ha⟩
    have hblk : a'.block = a.block := by
      rcases ha with rfl | ⟨rfl, _⟩
      · unfold Addr.add; split <;> rfl
      · rfl
    obtain ⟨h1, h2⟩ := h.setRest (hb.drop hn ha) (fun k e => ho k (by have e' : some a'.block = some k := e; rw [hblk] at e'; exact e')) (by rw [List.length_drop]; omega)
    refine ⟨_, rfl, ?_, fun k e => ho k e, h1, h2⟩
    refine (hb.take hn (fun h => by cases h)).but h2 ?_
    intro j e _
    exact (h.og j (ho j e)).1
theorem next_no {w : World} {r : Nat} {og : Option Nat} {zs : List Nat} {f : Int} (h : Rd w r og zs f) (n : Int) (hn : (zs.length : Int) < n) :
    Calls Try.prog 30 #[.pointer (some ⟨r, 0, none⟩), .int .i64 n] w fun e w' => e = .panicked [{ v := .iface 25 (.int .i64 2), recovered := false }] ∧ w' = w := by
  obtain ⟨ao, cap, c0, _⟩ := h.cells
  exact next_short ao _ cap n hn c0

theorem take1_ok {w : World} {r : Nat} {og : Option Nat} {zs : List Nat} {f : Int} (bn br bt : Nat) (x : Value) (n : Nat) (h : Rd w r og zs f) (hn : n ≤ zs.length)
    (cn : w.cell? ⟨bn, 0, none⟩ = some (.int .i64 n)) (cr : w.cell? ⟨br, 0, none⟩ = some (.pointer (some ⟨r, 0, none⟩))) (ct : w.heap[bt]? = some (.cells #[x] 22 (0, 0))) (ht : bt ≠ r) (hg : ∀ g, og = some g → g ≠ bt) :
    Calls Try.prog 29 #[.pointer (some ⟨bn, 0, none⟩), .pointer (some ⟨br, 0, none⟩), .pointer (some ⟨bt, 0, none⟩)] w fun e w' => e = .returned (.tuple #[]) ∧
      ∃ v, w'.heap[bt]? = some (.cells #[v] 22 (0, 0)) ∧ Ow w' w.heap.size v (zs.take n) ∧ Rd w' r og (zs.drop n) f ∧ But (fun k => k = r ∨ k = bt) w w' := by
  have HN : Hid (Calls Try.prog 30 #[.pointer (some ⟨r, 0, none⟩), .int .i64 n] w fun e w' => ∃ v, e = .returned v ∧ Bs w' v (zs.take n) ∧ (∀ k, v.ownBlock = some k → og = some k) ∧ Rd w' r og (zs.drop n) f ∧ But (· = r) w w') := next_ok h n hn
  have hs : (zs.take n).length ≤ 140737488355328 := by have := h.small; rw [List.length_take]; omega
  have CT : Hid (w.heap[bt]? = some (.cells #[x] 22 (0, 0))) := ct
  have hlt := lt_of_block ct
  clear h ct hn
  go_enter Try.func29, Try.ntmps29
  go_wp2_with fail
  refine Calls.mono HN.out ?_
  rintro e w1 ⟨v, rfl, hv, hvo, hrd, hbut⟩
  go_wp2_with fail
  refine Calls.mono (clone_any hv hs) ?_
  rintro e w2 ⟨v', rfl, hown, hbel⟩
  obtain ⟨ao', m', cap', rfl⟩ := hown.slice
  have t1 : w1.heap[bt]? = some (.cells #[x] 22 (0, 0)) := (hbut.block bt hlt ht).trans CT.out
  have hlt1 := lt_of_block t1
  have t2 : w2.heap[bt]? = some (.cells #[x] 22 (0, 0)) := (hbel.block bt hlt1).trans t1
  have tc := cell_of_one t2
  have tf := free_of_one t2
  have hrd2 := hrd.below hbel
  go_wp2
  go_end0
  have b3 : But (· = bt) w2 (w2.setCell ⟨bt, 0, none⟩ (.slice ao' m' cap')) := (But.refl (· = bt) w2).setCell (p := ⟨bt, 0, none⟩) (fun _ => rfl) _
  have hge := hown.ge
  refine ⟨rfl, _, one_setCell t2, (hown.mono hbut.size).but b3 (fun j e hj => ?_), hrd2.but b3 (fun e => ht e.symm) (fun g e => hg g e), ?_⟩
  · have := (hge j e).1; omega
  · refine But.then (But.then (hbut.mono (fun k _ e => .inl e)) (But.of (R := fun _ => False) hbel) (fun _ _ h => h.elim)) b3 (fun i _ e => .inr e)

theorem take1_neg {w : World} (bn : Nat) (q p : Value) (n : Int) (hn : n < 0) (cn : w.cell? ⟨bn, 0, none⟩ = some (.int .i64 n)) :
    Calls Try.prog 29 #[.pointer (some ⟨bn, 0, none⟩), q, p] w fun e w' => e = .panicked [{ v := .iface 25 (.int .i64 1), recovered := false }] ∧ w' = w := by
  go_enter Try.func29, Try.ntmps29
  go_wp2
  exact ⟨rfl, rfl, rfl⟩
theorem take1_no {w : World} {r : Nat} {og : Option Nat} {zs : List Nat} {f : Int} (bn br : Nat) (p : Value) (n : Int) (h : Rd w r og zs f) (hn : (zs.length : Int) < n)
    (cn : w.cell? ⟨bn, 0, none⟩ = some (.int .i64 n)) (cr : w.cell? ⟨br, 0, none⟩ = some (.pointer (some ⟨r, 0, none⟩))) :
    Calls Try.prog 29 #[.pointer (some ⟨bn, 0, none⟩), .pointer (some ⟨br, 0, none⟩), p] w fun e w' => e = .panicked [{ v := .iface 25 (.int .i64 2), recovered := false }] ∧ w' = w := by
  have HN : Hid (Calls Try.prog 30 #[.pointer (some ⟨r, 0, none⟩), .int .i64 n] w fun e w' => e = .panicked [{ v := .iface 25 (.int .i64 2), recovered := false }] ∧ w' = w) := next_no h n hn
  have hn0 : ¬ n < 0 := by omega
  clear h hn
  go_enter Try.func29, Try.ntmps29
  go_wp2_with fail
  refine Calls.mono HN.out ?_
  rintro e w1 ⟨rfl, hw1⟩
  have hw2 := hw1.symm
  subst hw2
  go_wp2
  exact ⟨rfl, rfl, rfl⟩

/-- The three variables that Take's step is handed. -/
def taken (w : World) (p : Option Addr) (n : Int) : World := ((w.alloc (.cells #[.pointer p] 33)).alloc (.cells #[.int .i64 n] 3)).alloc (.cells #[.slice none 0 0] 22)
theorem heap_size_alloc (w : World) (o : Obj) : (w.alloc o).heap.size = w.heap.size + 1 := by simp
theorem taken_below (w : World) (p : Option Addr) (n : Int) : Below w.heap.size w (taken w p n) := by
  refine (((Below.refl _ _).alloc (Nat.le_refl _) _).alloc ?_ _).alloc ?_ _ <;> simp <;> omega
theorem taken_size (w : World) (p : Option Addr) (n : Int) : (taken w p n).heap.size = w.heap.size + 3 := by simp [taken]
theorem taken_at (w : World) (p : Option Addr) (n : Int) : (taken w p n).heap[w.heap.size + 2]? = some (.cells #[.slice none 0 0] 22 (0, 0)) := by
  have := heap_alloc_new ((w.alloc (.cells #[.pointer p] 33)).alloc (.cells #[.int .i64 n] 3)) (.cells #[.slice none 0 0] 22)
  simpa [taken] using this

theorem take_faulty {w : World} {r : Nat} {og : Option Nat} {zs : List Nat} {f : Int} (h : Rd w r og zs f) (hf : f ≠ 0) (n : Int) :
    Calls Try.prog 16 #[.pointer (some ⟨r, 0, none⟩), .int .i64 n] w fun e w' => e = .returned (.slice none 0 0) ∧ Below w.heap.size w w' := by
  have hmf : ∀ (fn : Fn) (first cap : Array Value) (w : World), (Instr.makeFunc fn first cap).run Try.prog w = .ok (.func fn first cap) w := fun _ _ _ _ => rfl
  have hb := taken_below w (some ⟨r, 0, none⟩) n
  have HA : Hid (∀ fv, Calls Try.prog 28 #[.pointer (some ⟨r, 0, none⟩), fv] (taken w (some ⟨r, 0, none⟩) n) fun e w' => e = .returned (.tuple #[]) ∧ Below (taken w (some ⟨r, 0, none⟩) n).heap.size (taken w (some ⟨r, 0, none⟩) n) w') := fun fv => attempt_faulty (h.below hb) hf fv
  have ht := taken_at w (some ⟨r, 0, none⟩) n
  have hs := taken_size w (some ⟨r, 0, none⟩) n
  clear h
  unfold taken at HA hb ht hs
  go_enter Try.func16, Try.ntmps16
  go_wp2_with fail
  refine Calls.mono (HA.out _) ?_
  rintro e w1 ⟨rfl, hb1⟩
  have hc : w1.cell? ⟨w.heap.size + 2, 0, none⟩ = some (.slice none 0 0) := cell_of_one ((hb1.block _ (by rw [hs]; omega)).trans ht)
  go_wp2
  go_ret
  exact ⟨rfl, hb.trans (hb1.mono (by rw [hs]; omega))⟩
theorem take_nil (w : World) (n : Int) :
    Calls Try.prog 16 #[.pointer none, .int .i64 n] w fun e w' => e = .returned (.slice none 0 0) ∧ Below w.heap.size w w' := by
  have hmf : ∀ (fn : Fn) (first cap : Array Value) (w : World), (Instr.makeFunc fn first cap).run Try.prog w = .ok (.func fn first cap) w := fun _ _ _ _ => rfl
  have hb := taken_below w none n
  have ht := taken_at w none n
  have hs := taken_size w none n
  unfold taken at hb ht hs
  go_enter Try.func16, Try.ntmps16
  go_wp2_with fail
  refine Calls.mono (attempt_nil _ _) ?_
  rintro e w1 ⟨rfl, hb1⟩
  have hc : w1.cell? ⟨w.heap.size + 2, 0, none⟩ = some (.slice none 0 0) := cell_of_one ((hb1.block _ (by rw [hs]; omega)).trans ht)
  go_wp2
  go_ret
  exact ⟨rfl, hb.trans (hb1.mono (by rw [hs]; omega))⟩
theorem take_bad {w : World} {r : Nat} {og : Option Nat} {zs : List Nat} (h : Rd w r og zs 0) (n c : Int) (hn : (n < 0 ∧ c = 1) ∨ ((zs.length : Int) < n ∧ c = 2)) :
    Calls Try.prog 16 #[.pointer (some ⟨r, 0, none⟩), .int .i64 n] w fun e w' => e = .returned (.slice none 0 0) ∧ Rd w' r og [] c ∧ But (· = r) w w' := by
  have hmf : ∀ (fn : Fn) (first cap : Array Value) (w : World), (Instr.makeFunc fn first cap).run Try.prog w = .ok (.func fn first cap) w := fun _ _ _ _ => rfl
  have hb := taken_below w (some ⟨r, 0, none⟩) n
  have h3 := h.below hb
  have hlt := h.lt
  have hs := taken_size w (some ⟨r, 0, none⟩) n
  have ht := taken_at w (some ⟨r, 0, none⟩) n
  have cn : ((taken w (some ⟨r, 0, none⟩) n).alloc (.cells #[.pointer (some ⟨r, 0, none⟩)] 33)).cell? ⟨w.heap.size + 1, 0, none⟩ = some (.int .i64 n) := by simp [taken, go_sem]
  have cr : ((taken w (some ⟨r, 0, none⟩) n).alloc (.cells #[.pointer (some ⟨r, 0, none⟩)] 33)).cell? ⟨w.heap.size, 0, none⟩ = some (.pointer (some ⟨r, 0, none⟩)) := by simp [taken, go_sem]
  have hb4 : Below (taken w (some ⟨r, 0, none⟩) n).heap.size (taken w (some ⟨r, 0, none⟩) n) ((taken w (some ⟨r, 0, none⟩) n).alloc (.cells #[.pointer (some ⟨r, 0, none⟩)] 33)) := (Below.refl _ _).alloc (Nat.le_refl _) _
  have HA : Hid (Calls Try.prog 28 #[.pointer (some ⟨r, 0, none⟩), .func (.func 29) #[] #[.pointer (some ⟨w.heap.size + 1, 0, none⟩), .pointer (some ⟨w.heap.size, 0, none⟩), .pointer (some ⟨w.heap.size + 2, 0, none⟩)]] (taken w (some ⟨r, 0, none⟩) n) fun e w' => e = .returned (.tuple #[]) ∧ w' = down ((taken w (some ⟨r, 0, none⟩) n).alloc (.cells #[.pointer (some ⟨r, 0, none⟩)] 33)) r c) := by
    refine attempt_take_not h3 _ _ _ c ?_
    rcases hn with ⟨hn, rfl⟩ | ⟨hn, rfl⟩
    · exact take1_neg _ _ _ n hn cn
    · exact take1_no _ _ _ n (h3.below hb4) hn cn cr
  obtain ⟨hrd, hbut⟩ := (h3.below hb4).down c
  have hbut' : But (· = r) w (down ((taken w (some ⟨r, 0, none⟩) n).alloc (.cells #[.pointer (some ⟨r, 0, none⟩)] 33)) r c) :=
    But.then (But.of (hb.trans (hb4.mono (by rw [hs]; omega)))) hbut (fun _ _ e => e)
  have hc : (down ((taken w (some ⟨r, 0, none⟩) n).alloc (.cells #[.pointer (some ⟨r, 0, none⟩)] 33)) r c).cell? ⟨w.heap.size + 2, 0, none⟩ = some (.slice none 0 0) :=
    cell_of_one ((hbut.block _ (by rw [heap_size_alloc, hs]; omega) (by omega)).trans ((hb4.block _ (by rw [hs]; omega)).trans ht))
  clear h h3 ht hb hb4 hbut cn cr hn
  have HR : Hid (Rd (down ((taken w (some ⟨r, 0, none⟩) n).alloc (.cells #[.pointer (some ⟨r, 0, none⟩)] 33)) r c) r og [] c) := hrd
  have HB : Hid (But (· = r) w (down ((taken w (some ⟨r, 0, none⟩) n).alloc (.cells #[.pointer (some ⟨r, 0, none⟩)] 33)) r c)) := hbut'
  have HC : Hid ((down ((taken w (some ⟨r, 0, none⟩) n).alloc (.cells #[.pointer (some ⟨r, 0, none⟩)] 33)) r c).cell? ⟨w.heap.size + 2, 0, none⟩ = some (.slice none 0 0)) := hc
  clear hrd hbut' hc hs
  generalize down ((taken w (some ⟨r, 0, none⟩) n).alloc (.cells #[.pointer (some ⟨r, 0, none⟩)] 33)) r c = W at *
  unfold taken at HA
  go_enter Try.func16, Try.ntmps16
  go_wp2_with fail
  refine Calls.mono HA.out ?_
  rintro e w1 ⟨rfl, hw1⟩
  have hw2 := hw1.symm
  subst hw2
  have hc := HC.out
  go_wp2
  go_ret
  exact ⟨rfl, HR.out, HB.out⟩
theorem take_ok {w : World} {r : Nat} {og : Option Nat} {zs : List Nat} (h : Rd w r og zs 0) (n : Nat) (hn : n ≤ zs.length) :
    Calls Try.prog 16 #[.pointer (some ⟨r, 0, none⟩), .int .i64 n] w fun e w' => ∃ v, e = .returned v ∧ Ow w' w.heap.size v (zs.take n) ∧ Rd w' r og (zs.drop n) 0 ∧ But (· = r) w w' := by
  have hmf : ∀ (fn : Fn) (first cap : Array Value) (w : World), (Instr.makeFunc fn first cap).run Try.prog w = .ok (.func fn first cap) w := fun _ _ _ _ => rfl
  have hb := taken_below w (some ⟨r, 0, none⟩) n
  have h3 := h.below hb
  have hlt := h.lt
  have hog := h.og
  have hs := taken_size w (some ⟨r, 0, none⟩) n
  have ht := taken_at w (some ⟨r, 0, none⟩) n
  have cn : ((taken w (some ⟨r, 0, none⟩) n).alloc (.cells #[.pointer (some ⟨r, 0, none⟩)] 33)).cell? ⟨w.heap.size + 1, 0, none⟩ = some (.int .i64 n) := by simp [taken, go_sem]
  have cr : ((taken w (some ⟨r, 0, none⟩) n).alloc (.cells #[.pointer (some ⟨r, 0, none⟩)] 33)).cell? ⟨w.heap.size, 0, none⟩ = some (.pointer (some ⟨r, 0, none⟩)) := by simp [taken, go_sem]
  have hb4 : Below (taken w (some ⟨r, 0, none⟩) n).heap.size (taken w (some ⟨r, 0, none⟩) n) ((taken w (some ⟨r, 0, none⟩) n).alloc (.cells #[.pointer (some ⟨r, 0, none⟩)] 33)) := (Below.refl _ _).alloc (Nat.le_refl _) _
  have HA : Hid (Calls Try.prog 28 #[.pointer (some ⟨r, 0, none⟩), .func (.func 29) #[] #[.pointer (some ⟨w.heap.size + 1, 0, none⟩), .pointer (some ⟨w.heap.size, 0, none⟩), .pointer (some ⟨w.heap.size + 2, 0, none⟩)]] (taken w (some ⟨r, 0, none⟩) n) fun e w' => e = .returned (.tuple #[]) ∧
      ∃ v, w'.heap[w.heap.size + 2]? = some (.cells #[v] 22 (0, 0)) ∧ Ow w' w.heap.size v (zs.take n) ∧ Rd w' r og (zs.drop n) 0 ∧ But (· = r) w w') := by
    refine attempt_take h3 _ _ _ ?_
    refine (take1_ok (w.heap.size + 1) w.heap.size (w.heap.size + 2) _ n (h3.below hb4) hn cn cr ((hb4.block _ (by rw [hs]; omega)).trans ht) (by omega) (fun g e => by have := (hog g e).2; omega)).mono ?_
    rintro e w' ⟨he, v, hv, hown, hrd, hbut⟩
    refine ⟨he, v, hv, hown.mono (by rw [heap_size_alloc, hs]; omega), hrd, ?_⟩
    exact But.then (But.of (hb.trans (hb4.mono (by rw [hs]; omega)))) hbut (fun i hi e => e.resolve_right (by omega))
  clear h h3 ht hb hb4 cn cr hn hs hog
  unfold taken at HA
  go_enter Try.func16, Try.ntmps16
  go_wp2_with fail
  refine Calls.mono HA.out ?_
  rintro e w1 ⟨rfl, v, hv, hown, hrd, hbut⟩
  have hc := cell_of_one hv
  obtain ⟨ao', m', cap', rfl⟩ := hown.slice
  go_wp2
  go_ret
  exact ⟨_, rfl, hown, hrd, hbut⟩
end Go.Proofs.Ytgffaekhhhkjcaa
