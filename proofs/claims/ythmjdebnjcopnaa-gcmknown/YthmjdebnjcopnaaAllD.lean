/- RowTake, RowNum, EqItems, ArrEq, Arrays, AesCol, AesBox, AesMix, AesTurn, AesPut, AesKeyed, AesRounds, AesEnc, AesGrown. -/
import Derived.Test.YthmjdebnjcopnaaAllC
import Derived.Test.YthmjdebnjcopnaaAllA
import Derived.Laws.BitsAllLaws
import Derived.ChangeKeysEq
import Derived.Deep.Cut
/- row: Take. -/
namespace Go.Proofs.Ythmjdebnjcopnaa
open Go.RowKit

theorem Bs.take {w : World} {ao : Option Addr} {l cap n : Nat} {zs : List Nat} (h : Bs w (.slice ao l cap) zs) (hn : n ≤ zs.length) (hao : ao = none → cap = 0) : Bs w (.slice ao n cap) (zs.take n) := by
  obtain ⟨h1, h2, h3⟩ := h
  refine ⟨fun z hz => h1 z (List.mem_of_mem_take hz), by rw [List.length_take]; omega, ?_⟩
  by_cases h0 : n = 0
  · subst h0
    refine .inl ⟨rfl, ?_⟩
    cases ao with
    | none => rw [hao rfl]; exact .inl rfl
    | some a => exact .inr ⟨a, cap, rfl⟩
  · rcases h3 with ⟨rfl, _⟩ | ⟨_, b, off, cap', e, hcap, hb, hc⟩
    · simp at hn; omega
    · simp only [Value.slice.injEq] at e
      obtain ⟨rfl, _, rfl⟩ := e
      have hl : (zs.take n).length = n := by rw [List.length_take]; omega
      refine .inr ⟨by omega, b, off, cap, by rw [hl], by omega, hb, fun i hi => ?_⟩
      rw [hl] at hi
      rw [hc i (by omega)]
      simp [List.getD, hi]
theorem Bs.drop {w : World} {a a' : Addr} {l cap n : Nat} {zs : List Nat} (h : Bs w (.slice (some a) l cap) zs) (hn : n ≤ zs.length) (ha : a' = a.add n ∨ (a' = a ∧ n = zs.length)) : Bs w (.slice (some a') (zs.length - n) (cap - n)) (zs.drop n) := by
  obtain ⟨h1, h2, h3⟩ := h
  refine ⟨fun z hz => h1 z (List.mem_of_mem_drop hz), by rw [List.length_drop]; omega, ?_⟩
  by_cases h0 : n = zs.length
  · refine .inl ⟨List.drop_of_length_le (by omega), .inr ⟨a', cap - n, by rw [h0, Nat.sub_self]⟩⟩
  · rcases h3 with ⟨rfl, _⟩ | ⟨_, b, off, cap', e, hcap, hb, hc⟩
    · simp at hn h0; omega
    · simp only [Value.slice.injEq, Option.some.injEq] at e
      obtain ⟨rfl, _, rfl⟩ := e
      have ha' : a' = ⟨b, off + n, none⟩ := by
        rcases ha with ha | ha
        · rw [ha]; simp [Addr.add]
        · exact absurd ha.2 h0
      subst ha'
      refine .inr ⟨by rw [List.length_drop]; omega, b, off + n, cap - n, by rw [List.length_drop], by rw [List.length_drop]; omega, hb, fun i hi => ?_⟩
      rw [List.length_drop] at hi
      rw [Nat.add_assoc, hc (n + i) (by omega)]
      simp [List.getD, List.getElem?_drop]
theorem Bs.cap {w : World} {ao : Option Addr} {l cap : Nat} {zs : List Nat} (h : Bs w (.slice ao l cap) zs) : zs.length ≤ cap := by
  obtain ⟨_, _, ⟨rfl, _⟩ | ⟨_, b, off, cap', e, hcap, _⟩⟩ := h
  · simp
  · simp only [Value.slice.injEq] at e
    obtain ⟨_, _, rfl⟩ := e; exact hcap

theorem Rd.setRest {w : World} {r : Nat} {og : Option Nat} {zs zs' : List Nat} {f : Int} {v : Value} (h : Rd w r og zs f) (hv : Bs w v zs') (ho : ∀ k, v.ownBlock = some k → og = some k) (hs : zs'.length ≤ 140737488355328) :
    Rd (w.setCell ⟨r, 0, none⟩ v) r og zs' f ∧ But (· = r) w (w.setCell ⟨r, 0, none⟩ v) := by
  obtain ⟨⟨rest, hh, _, _⟩, h2, _⟩ := h
  have hb : But (· = r) w (w.setCell ⟨r, 0, none⟩ v) := (But.refl (· = r) w).setCell (p := ⟨r, 0, none⟩) (fun _ => rfl) v
  refine ⟨⟨⟨v, ?_, hv.but hb (fun j e _ => (h2 j (ho j e)).1), ho⟩, fun g e => ⟨(h2 g e).1, Nat.lt_of_lt_of_le (h2 g e).2 hb.size⟩, hs⟩, hb⟩
  rw [heap_setCell_same w r 0 _ _ v hh]; rfl
theorem Rd.down {w : World} {r : Nat} {og : Option Nat} {zs : List Nat} {f : Int} (h : Rd w r og zs f) (c : Int) : Rd (down w r c) r og [] c ∧ But (· = r) w (Ythmjdebnjcopnaa.down w r c) := by
  obtain ⟨h1, b1⟩ := h.setRest (Bs.nil w) (fun k e => by cases e) (by simp)
  obtain ⟨⟨rest, hh, _, _⟩, h2, _⟩ := h1
  have hr : rest = .slice none 0 0 := by
    obtain ⟨⟨rest0, hh0, _, _⟩, _, _⟩ := h
    rw [heap_setCell_same w r 0 _ _ _ hh0] at hh
    simp at hh; exact hh.symm
  subst hr
  have hb : But (· = r) w (Ythmjdebnjcopnaa.down w r c) := b1.setCell (p := ⟨r, 1, none⟩) (fun _ => rfl) _
  refine ⟨⟨⟨.slice none 0 0, ?_, Bs.nil _, fun k e => by cases e⟩, fun g e => ⟨(h2 g e).1, by have := (h2 g e).2; simpa [Ythmjdebnjcopnaa.down] using this⟩, by simp⟩, hb⟩
  unfold Ythmjdebnjcopnaa.down
  rw [heap_setCell_same _ r 1 _ _ _ hh]; rfl

theorem next_ok {w : World} {r : Nat} {og : Option Nat} {zs : List Nat} {f : Int} (h : Rd w r og zs f) (n : Nat) (hn : n ≤ zs.length) :
    Calls Try.prog 85 #[.pointer (some ⟨r, 0, none⟩), .int .i64 n] w fun e w' => ∃ v, e = .returned v ∧ Bs w' v (zs.take n) ∧ (∀ k, v.ownBlock = some k → og = some k) ∧ Rd w' r og (zs.drop n) f ∧ But (· = r) w w' := by
  obtain ⟨ao, cap, c0, _, z0, _, hb, ho⟩ := h.cells
  have hs := h.small
  cases ao with
  | none =>
    obtain ⟨ao', cap', e, hnn, _⟩ := hb.gen
    simp only [Value.slice.injEq] at e
    obtain ⟨rfl, _, rfl⟩ := e
    obtain ⟨hl, rfl⟩ := hnn rfl
    have := List.eq_nil_of_length_eq_zero hl
    subst this
    obtain rfl : n = 0 := by simpa using hn
    refine (next_none c0 z0).mono ?_
    rintro e w' ⟨rfl, rfl⟩
    obtain ⟨h1, h2⟩ := h.setRest (Bs.nil w) (fun k e => by cases e) (by simp)
    exact ⟨_, rfl, Bs.nil _, fun k e => (by cases e), h1, h2⟩
  | some a =>
    refine (next_some a n zs.length cap hn hb.cap c0 z0).mono ?_
    rintro e w' ⟨rfl, a', rfl, ha⟩
    have hblk : a'.block = a.block := by
      rcases ha with rfl | ⟨rfl, _⟩
      · unfold Addr.add; split <;> rfl
      · rfl
    obtain ⟨h1, h2⟩ := h.setRest (hb.drop hn ha) (fun k e => ho k (by have e' : some a'.block = some k := e; rw [hblk] at e'; exact e')) (by rw [List.length_drop]; omega)
    refine ⟨_, rfl, ?_, fun k e => ho k e, h1, h2⟩
    refine (hb.take hn (fun h => by cases h)).but h2 ?_
    intro j e _
    exact (h.og j (ho j e)).1
theorem next_no {w : World} {r : Nat} {og : Option Nat} {zs : List Nat} {f : Int} (h : Rd w r og zs f) (n : Int) (hn : (zs.length : Int) < n) :
    Calls Try.prog 85 #[.pointer (some ⟨r, 0, none⟩), .int .i64 n] w fun e w' => e = .panicked [{ v := .iface 25 (.int .i64 2), recovered := false }] ∧ w' = w := by
  obtain ⟨ao, cap, c0, _⟩ := h.cells
  exact next_short ao _ cap n hn c0

/-- The three variables that Take's step is handed. -/
def taken (w : World) (p : Option Addr) (n : Int) : World := ((w.alloc (.cells #[.pointer p] 104)).alloc (.cells #[.int .i64 n] 3)).alloc (.cells #[.slice none 0 0] 22)
theorem heap_size_alloc (w : World) (o : Obj) : (w.alloc o).heap.size = w.heap.size + 1 := by simp
theorem taken_below (w : World) (p : Option Addr) (n : Int) : Below w.heap.size w (taken w p n) := by
  refine (((Below.refl _ _).alloc (Nat.le_refl _) _).alloc ?_ _).alloc ?_ _ <;> simp <;> omega
theorem taken_size (w : World) (p : Option Addr) (n : Int) : (taken w p n).heap.size = w.heap.size + 3 := by simp [taken]
theorem taken_at (w : World) (p : Option Addr) (n : Int) : (taken w p n).heap[w.heap.size + 2]? = some (.cells #[.slice none 0 0] 22 (0, 0)) := by
  have := heap_alloc_new ((w.alloc (.cells #[.pointer p] 104)).alloc (.cells #[.int .i64 n] 3)) (.cells #[.slice none 0 0] 22)
  simpa [taken] using this

end Go.Proofs.Ythmjdebnjcopnaa
/- row: Num. -/
namespace Go.Proofs.Ythmjdebnjcopnaa
open Go.RowKit

theorem num1_ok {w : World} {r : Nat} {og : Option Nat} {zs : List Nat} {f : Int} (bs br bn : Nat) (s : Nat) (h : Rd w r og zs f) (hs1 : 1 ≤ s) (hs8 : s ≤ 8) (hs : s ≤ zs.length)
    (cs : w.cell? ⟨bs, 0, none⟩ = some (.int .i64 s)) (cr : w.cell? ⟨br, 0, none⟩ = some (.pointer (some ⟨r, 0, none⟩))) (cn : w.heap[bn]? = some (.cells #[.int .u64 0] 70 (0, 0))) (hn : bn ≠ r) (hg : ∀ g, og = some g → g ≠ bn) :
    Calls Try.prog 83 #[.pointer (some ⟨bs, 0, none⟩), .pointer (some ⟨br, 0, none⟩), .pointer (some ⟨bn, 0, none⟩)] w fun e w' => e = .returned (.tuple #[]) ∧
      w'.heap[bn]? = some (.cells #[.int .u64 (val (zs.take s) : Nat)] 70 (0, 0)) ∧ Rd w' r og (zs.drop s) f ∧ But (fun k => k = r ∨ k = bn) w w' := by
  have HN : Hid (Calls Try.prog 85 #[.pointer (some ⟨r, 0, none⟩), .int .i64 s] w fun e w' => ∃ v, e = .returned v ∧ Bs w' v (zs.take s) ∧ (∀ k, v.ownBlock = some k → og = some k) ∧ Rd w' r og (zs.drop s) f ∧ But (· = r) w w') := next_ok h s hs
  have HI : Hid (Calls Try.prog 84 #[.int .i64 s] w fun e w' => e = .returned (.bool true) ∧ w' = w) := by
    have := isSize_any s w
    rw [decide_eq_true (by omega)] at this
    exact this
  have CN : Hid (w.heap[bn]? = some (.cells #[.int .u64 0] 70 (0, 0))) := cn
  have hlt := lt_of_block cn
  have HL : Hid ((zs.take s).length = s) := by show _ = _; rw [List.length_take]; omega
  clear h cn hs
  generalize zs.take s = ys at *
  generalize zs.drop s = ds at *
  go_enter Try.func83, Try.ntmps83
  go_wp2_with fail
  refine Calls.mono HI.out ?_
  rintro e w1 ⟨rfl, hw1⟩
  have hw2 := hw1.symm
  subst hw2
  go_wp2_with fail
  refine Calls.mono HN.out ?_
  rintro e w1 ⟨v, rfl, hv, hvo, hrd, hbut⟩
  obtain ⟨hb, _, ⟨rfl, _⟩ | ⟨_, b, off, cap, rfl, hcap, hblk, hcell⟩⟩ := hv
  · have := HL.out; simp at this; omega
  rw [HL.out] at hcap hcell hvo ⊢
  have hbn : b ≠ bn := hg b (hvo b rfl)
  have t1 : w1.heap[bn]? = some (.cells #[.int .u64 0] 70 (0, 0)) := (hbut.block bn hlt hn).trans CN.out
  have HC : Hid (∀ i, i < s → w1.cell? ⟨b, off + i, none⟩ = some (.int .u8 (ys.getD i 0 : Nat))) := hcell
  have HB : Hid (∀ z ∈ ys, z < 256) := hb
  have HR : Hid (Rd w1 r og ds f) := hrd
  have HT : Hid (w1.heap[bn]? = some (.cells #[.int .u64 0] 70 (0, 0))) := t1
  clear hcell hb hrd t1 hvo
  go_wp2
  go_loopw [4, 13] (fun _ i wr => ∃ k : Nat, k ≤ s ∧ i = .int .i64 k ∧ wr.heap[bn]? = some (.cells #[.int .u64 (val (ys.take k) : Nat)] 70 (0, 0)) ∧ But (· = bn) w1 wr) (fun _ i _ => s - (intOf i).toNat)
  case atStart => exact ⟨0, Nat.zero_le _, rfl, HT.out, But.refl _ _⟩
  case round =>
    obtain ⟨k, hk, rfl, ht, hbw⟩ := hrel
    by_cases hlt2 : k < s
    · obtain ⟨z, hz⟩ : ∃ z, ys.getD k 0 = z := ⟨_, rfl⟩
      have hkl : k < ys.length := by rw [HL.out]; exact hlt2
      have f1 : wr.cell? ⟨b, off + k, none⟩ = some (.int .u8 (z : Nat)) := by rw [← hz]; exact (World.cell?_of_block (hbw.block b hblk hbn)).trans (HC.out k hlt2)
      have hz1 : z < 256 := by rw [← hz]; exact HB.out _ (getD_mem ys k hkl)
      have HV : Hid (val (ys.take (k + 1)) = 256 * val (ys.take k) + z) := by rw [← hz]; exact val_next ys k hkl
      have ha : val (ys.take k) < 72057594037927936 := by
        have h1 := val_lt ys HB.out k (by omega)
        have h2 : 256 ^ k ≤ 256 ^ 7 := Nat.pow_le_pow_right (by decide) (by omega)
        omega
      clear hz
      generalize val (ys.take k) = a at *
      have c1 := cell_of_one ht
      have c2 := free_of_one ht
      have hor := shl_or a z ha hz1
      have HT2 : Hid (wr.heap[bn]? = some (.cells #[.int .u64 (a : Nat)] 70 (0, 0))) := ht
      clear ht
      go_wp2
      refine ⟨⟨k + 1, by omega, by go_num, ?_, hbw.setCell (p := ⟨bn, 0, none⟩) (fun _ => rfl) _⟩, by simp [intOf]; omega⟩
      rw [one_setCell HT2.out, HV.out]; simp
    · have hkn : k = s := by omega
      subst hkn
      have HT2 : Hid (wr.heap[bn]? = some (.cells #[.int .u64 (val ys : Nat)] 70 (0, 0))) := by
        show _ = _
        rw [ht, List.take_of_length_le (by rw [HL.out]; omega)]
      clear ht
      go_wp2
      go_end0
      exact ⟨rfl, HT2.out, HR.out.but hbw (fun e => hn e.symm) hg, But.then (hbut.mono (fun _ _ e => .inl e)) hbw (fun _ _ e => .inr e)⟩
theorem num1_arg {w : World} (bs : Nat) (q p : Value) (s : Int) (hs : ¬ (1 ≤ s ∧ s ≤ 8)) (cs : w.cell? ⟨bs, 0, none⟩ = some (.int .i64 s)) :
    Calls Try.prog 83 #[.pointer (some ⟨bs, 0, none⟩), q, p] w fun e w' => e = .panicked [{ v := .iface 25 (.int .i64 1), recovered := false }] ∧ w' = w := by
  have HI : Hid (Calls Try.prog 84 #[.int .i64 s] w fun e w' => e = .returned (.bool false) ∧ w' = w) := by
    have := isSize_any s w
    rw [decide_eq_false hs] at this
    exact this
  clear hs
  go_enter Try.func83, Try.ntmps83
  go_wp2_with fail
  refine Calls.mono HI.out ?_
  rintro e w1 ⟨rfl, hw1⟩
  have hw2 := hw1.symm
  subst hw2
  go_wp2
  exact ⟨rfl, rfl, rfl⟩
theorem num1_no {w : World} {r : Nat} {og : Option Nat} {zs : List Nat} {f : Int} (bs br : Nat) (p : Value) (s : Int) (h : Rd w r og zs f) (h8 : 1 ≤ s ∧ s ≤ 8) (hn : (zs.length : Int) < s)
    (cs : w.cell? ⟨bs, 0, none⟩ = some (.int .i64 s)) (cr : w.cell? ⟨br, 0, none⟩ = some (.pointer (some ⟨r, 0, none⟩))) :
    Calls Try.prog 83 #[.pointer (some ⟨bs, 0, none⟩), .pointer (some ⟨br, 0, none⟩), p] w fun e w' => e = .panicked [{ v := .iface 25 (.int .i64 2), recovered := false }] ∧ w' = w := by
  have HI : Hid (Calls Try.prog 84 #[.int .i64 s] w fun e w' => e = .returned (.bool true) ∧ w' = w) := by
    have := isSize_any s w
    rw [decide_eq_true h8] at this
    exact this
  have HN : Hid (Calls Try.prog 85 #[.pointer (some ⟨r, 0, none⟩), .int .i64 s] w fun e w' => e = .panicked [{ v := .iface 25 (.int .i64 2), recovered := false }] ∧ w' = w) := next_no h s hn
  clear h hn h8
  go_enter Try.func83, Try.ntmps83
  go_wp2_with fail
  refine Calls.mono HI.out ?_
  rintro e w1 ⟨rfl, hw1⟩
  have hw2 := hw1.symm
  subst hw2
  go_wp2_with fail
  refine Calls.mono HN.out ?_
  rintro e w1 ⟨rfl, hw1⟩
  have hw2 := hw1.symm
  subst hw2
  go_wp2
  exact ⟨rfl, rfl, rfl⟩

/-- The three variables that Num's step is handed. -/
def counted (w : World) (p : Option Addr) (n : Int) : World := ((w.alloc (.cells #[.pointer p] 104)).alloc (.cells #[.int .i64 n] 3)).alloc (.cells #[.int .u64 0] 70)
theorem counted_below (w : World) (p : Option Addr) (n : Int) : Below w.heap.size w (counted w p n) := by
  refine (((Below.refl _ _).alloc (Nat.le_refl _) _).alloc ?_ _).alloc ?_ _ <;> simp <;> omega
theorem counted_size (w : World) (p : Option Addr) (n : Int) : (counted w p n).heap.size = w.heap.size + 3 := by simp [counted]
theorem counted_at (w : World) (p : Option Addr) (n : Int) : (counted w p n).heap[w.heap.size + 2]? = some (.cells #[.int .u64 0] 70 (0, 0)) := by
  have := heap_alloc_new ((w.alloc (.cells #[.pointer p] 104)).alloc (.cells #[.int .i64 n] 3)) (.cells #[.int .u64 0] 70)
  simpa [counted] using this

theorem num_faulty {w : World} {r : Nat} {og : Option Nat} {zs : List Nat} {f : Int} (h : Rd w r og zs f) (hf : f ≠ 0) (n : Int) :
    Calls Try.prog 59 #[.pointer (some ⟨r, 0, none⟩), .int .i64 n] w fun e w' => e = .returned (.int .u64 0) ∧ Below w.heap.size w w' := by
  have hmf : ∀ (fn : Fn) (first cap : Array Value) (w : World), (Instr.makeFunc fn first cap).run Try.prog w = .ok (.func fn first cap) w := fun _ _ _ _ => rfl
  have hb := counted_below w (some ⟨r, 0, none⟩) n
  have HA : Hid (∀ fv, Calls Try.prog 82 #[.pointer (some ⟨r, 0, none⟩), fv] (counted w (some ⟨r, 0, none⟩) n) fun e w' => e = .returned (.tuple #[]) ∧ Below (counted w (some ⟨r, 0, none⟩) n).heap.size (counted w (some ⟨r, 0, none⟩) n) w') := fun fv => attempt_faulty (h.below hb) hf fv
  have ht := counted_at w (some ⟨r, 0, none⟩) n
  have hs := counted_size w (some ⟨r, 0, none⟩) n
  clear h
  unfold counted at HA hb ht hs
  go_enter Try.func59, Try.ntmps59
  go_wp2_with fail
  refine Calls.mono (HA.out _) ?_
  rintro e w1 ⟨rfl, hb1⟩
  have hc : w1.cell? ⟨w.heap.size + 2, 0, none⟩ = some (.int .u64 0) := cell_of_one ((hb1.block _ (by rw [hs]; omega)).trans ht)
  go_wp2
  go_ret
  exact ⟨rfl, hb.trans (hb1.mono (by rw [hs]; omega))⟩
theorem num_nil (w : World) (n : Int) :
    Calls Try.prog 59 #[.pointer none, .int .i64 n] w fun e w' => e = .returned (.int .u64 0) ∧ Below w.heap.size w w' := by
  have hmf : ∀ (fn : Fn) (first cap : Array Value) (w : World), (Instr.makeFunc fn first cap).run Try.prog w = .ok (.func fn first cap) w := fun _ _ _ _ => rfl
  have hb := counted_below w none n
  have ht := counted_at w none n
  have hs := counted_size w none n
  unfold counted at hb ht hs
  go_enter Try.func59, Try.ntmps59
  go_wp2_with fail
  refine Calls.mono (attempt_nil _ _) ?_
  rintro e w1 ⟨rfl, hb1⟩
  have hc : w1.cell? ⟨w.heap.size + 2, 0, none⟩ = some (.int .u64 0) := cell_of_one ((hb1.block _ (by rw [hs]; omega)).trans ht)
  go_wp2
  go_ret
  exact ⟨rfl, hb.trans (hb1.mono (by rw [hs]; omega))⟩
theorem num_bad {w : World} {r : Nat} {og : Option Nat} {zs : List Nat} (h : Rd w r og zs 0) (n c : Int) (hn : (¬ (1 ≤ n ∧ n ≤ 8) ∧ c = 1) ∨ ((1 ≤ n ∧ n ≤ 8) ∧ (zs.length : Int) < n ∧ c = 2)) :
    Calls Try.prog 59 #[.pointer (some ⟨r, 0, none⟩), .int .i64 n] w fun e w' => e = .returned (.int .u64 0) ∧ Rd w' r og [] c ∧ But (· = r) w w' := by
  have hmf : ∀ (fn : Fn) (first cap : Array Value) (w : World), (Instr.makeFunc fn first cap).run Try.prog w = .ok (.func fn first cap) w := fun _ _ _ _ => rfl
  have hb := counted_below w (some ⟨r, 0, none⟩) n
  have h3 := h.below hb
  have hlt := h.lt
  have hs := counted_size w (some ⟨r, 0, none⟩) n
  have ht := counted_at w (some ⟨r, 0, none⟩) n
  have cn : ((counted w (some ⟨r, 0, none⟩) n).alloc (.cells #[.pointer (some ⟨r, 0, none⟩)] 104)).cell? ⟨w.heap.size + 1, 0, none⟩ = some (.int .i64 n) := by simp [counted, go_sem]
  have cr : ((counted w (some ⟨r, 0, none⟩) n).alloc (.cells #[.pointer (some ⟨r, 0, none⟩)] 104)).cell? ⟨w.heap.size, 0, none⟩ = some (.pointer (some ⟨r, 0, none⟩)) := by simp [counted, go_sem]
  have hb4 : Below (counted w (some ⟨r, 0, none⟩) n).heap.size (counted w (some ⟨r, 0, none⟩) n) ((counted w (some ⟨r, 0, none⟩) n).alloc (.cells #[.pointer (some ⟨r, 0, none⟩)] 104)) := (Below.refl _ _).alloc (Nat.le_refl _) _
  have HA : Hid (Calls Try.prog 82 #[.pointer (some ⟨r, 0, none⟩), .func (.func 83) #[] #[.pointer (some ⟨w.heap.size + 1, 0, none⟩), .pointer (some ⟨w.heap.size, 0, none⟩), .pointer (some ⟨w.heap.size + 2, 0, none⟩)]] (counted w (some ⟨r, 0, none⟩) n) fun e w' => e = .returned (.tuple #[]) ∧ w' = down ((counted w (some ⟨r, 0, none⟩) n).alloc (.cells #[.pointer (some ⟨r, 0, none⟩)] 104)) r c) := by
    refine attempt_num_not h3 _ _ _ c ?_
    rcases hn with ⟨hn, rfl⟩ | ⟨h8, hn, rfl⟩
    · exact num1_arg _ _ _ n hn cn
    · exact num1_no _ _ _ n (h3.below hb4) h8 hn cn cr
  obtain ⟨hrd, hbut⟩ := (h3.below hb4).down c
  have hbut' : But (· = r) w (down ((counted w (some ⟨r, 0, none⟩) n).alloc (.cells #[.pointer (some ⟨r, 0, none⟩)] 104)) r c) :=
    But.then (But.of (hb.trans (hb4.mono (by rw [hs]; omega)))) hbut (fun _ _ e => e)
  have hc : (down ((counted w (some ⟨r, 0, none⟩) n).alloc (.cells #[.pointer (some ⟨r, 0, none⟩)] 104)) r c).cell? ⟨w.heap.size + 2, 0, none⟩ = some (.int .u64 0) :=
    cell_of_one ((hbut.block _ (by rw [heap_size_alloc, hs]; omega) (by omega)).trans ((hb4.block _ (by rw [hs]; omega)).trans ht))
  clear h h3 ht hb hb4 hbut cn cr hn
  have HR : Hid (Rd (down ((counted w (some ⟨r, 0, none⟩) n).alloc (.cells #[.pointer (some ⟨r, 0, none⟩)] 104)) r c) r og [] c) := hrd
  have HB : Hid (But (· = r) w (down ((counted w (some ⟨r, 0, none⟩) n).alloc (.cells #[.pointer (some ⟨r, 0, none⟩)] 104)) r c)) := hbut'
  have HC : Hid ((down ((counted w (some ⟨r, 0, none⟩) n).alloc (.cells #[.pointer (some ⟨r, 0, none⟩)] 104)) r c).cell? ⟨w.heap.size + 2, 0, none⟩ = some (.int .u64 0)) := hc
  clear hrd hbut' hc hs
  generalize down ((counted w (some ⟨r, 0, none⟩) n).alloc (.cells #[.pointer (some ⟨r, 0, none⟩)] 104)) r c = W at *
  unfold counted at HA
  go_enter Try.func59, Try.ntmps59
  go_wp2_with fail
  refine Calls.mono HA.out ?_
  rintro e w1 ⟨rfl, hw1⟩
  have hw2 := hw1.symm
  subst hw2
  have hc := HC.out
  go_wp2
  go_ret
  exact ⟨rfl, HR.out, HB.out⟩
theorem num_ok {w : World} {r : Nat} {og : Option Nat} {zs : List Nat} (h : Rd w r og zs 0) (n : Nat) (h1 : 1 ≤ n) (h8 : n ≤ 8) (hn : n ≤ zs.length) :
    Calls Try.prog 59 #[.pointer (some ⟨r, 0, none⟩), .int .i64 n] w fun e w' => e = .returned (.int .u64 (val (zs.take n) : Nat)) ∧ Rd w' r og (zs.drop n) 0 ∧ But (· = r) w w' := by
  have hmf : ∀ (fn : Fn) (first cap : Array Value) (w : World), (Instr.makeFunc fn first cap).run Try.prog w = .ok (.func fn first cap) w := fun _ _ _ _ => rfl
  have hb := counted_below w (some ⟨r, 0, none⟩) n
  have h3 := h.below hb
  have hlt := h.lt
  have hog := h.og
  have hs := counted_size w (some ⟨r, 0, none⟩) n
  have ht := counted_at w (some ⟨r, 0, none⟩) n
  have cn : ((counted w (some ⟨r, 0, none⟩) n).alloc (.cells #[.pointer (some ⟨r, 0, none⟩)] 104)).cell? ⟨w.heap.size + 1, 0, none⟩ = some (.int .i64 n) := by simp [counted, go_sem]
  have cr : ((counted w (some ⟨r, 0, none⟩) n).alloc (.cells #[.pointer (some ⟨r, 0, none⟩)] 104)).cell? ⟨w.heap.size, 0, none⟩ = some (.pointer (some ⟨r, 0, none⟩)) := by simp [counted, go_sem]
  have hb4 : Below (counted w (some ⟨r, 0, none⟩) n).heap.size (counted w (some ⟨r, 0, none⟩) n) ((counted w (some ⟨r, 0, none⟩) n).alloc (.cells #[.pointer (some ⟨r, 0, none⟩)] 104)) := (Below.refl _ _).alloc (Nat.le_refl _) _
  have HA : Hid (Calls Try.prog 82 #[.pointer (some ⟨r, 0, none⟩), .func (.func 83) #[] #[.pointer (some ⟨w.heap.size + 1, 0, none⟩), .pointer (some ⟨w.heap.size, 0, none⟩), .pointer (some ⟨w.heap.size + 2, 0, none⟩)]] (counted w (some ⟨r, 0, none⟩) n) fun e w' => e = .returned (.tuple #[]) ∧
      w'.heap[w.heap.size + 2]? = some (.cells #[.int .u64 (val (zs.take n) : Nat)] 70 (0, 0)) ∧ Rd w' r og (zs.drop n) 0 ∧ But (· = r) w w') := by
    refine attempt_num h3 _ _ _ ?_
    refine (num1_ok (w.heap.size + 1) w.heap.size (w.heap.size + 2) n (h3.below hb4) h1 h8 hn cn cr ((hb4.block _ (by rw [hs]; omega)).trans ht) (by omega) (fun g e => by have := (hog g e).2; omega)).mono ?_
    rintro e w' ⟨he, hv, hrd, hbut⟩
    refine ⟨he, hv, hrd, ?_⟩
    exact But.then (But.of (hb.trans (hb4.mono (by rw [hs]; omega)))) hbut (fun i hi e => e.resolve_right (by omega))
  clear h h3 ht hb hb4 cn cr hn hs hog
  unfold counted at HA
  go_enter Try.func59, Try.ntmps59
  go_wp2_with fail
  refine Calls.mono HA.out ?_
  rintro e w1 ⟨rfl, hv, hrd, hbut⟩
  have hc := cell_of_one hv
  go_wp2
  go_ret
  exact ⟨rfl, hrd, hbut⟩
end Go.Proofs.Ythmjdebnjcopnaa
/- Arrays of bytes held against each other. -/
namespace Go.Proofs.Ythmjdebnjcopnaa
open Go.RowKit

theorem eqItems_any (D E : List Nat) (d : Nat) (w : World) (is : List Nat) (hD : ∀ j ∈ is, j < D.length) (hE : ∀ j ∈ is, j < E.length) :
    (Op.eqItems (d + 1) 5 1 (u8s D).toArray (u8s E).toArray is).run Try.prog w = .ok (is.all fun j => D.getD j 0 == E.getD j 0) w := by
  induction is with
  | nil => simp [Op.eqItems]
  | cons j is ih =>
    have hd := hD j (by simp)
    have he := hE j (by simp)
    have h2 : (isAgg 5).run Try.prog w = .ok false w := by kernel_rfl
    have hp : ∀ (D : List Nat), j < D.length → (part 5 (u8s D).toArray (j * 1)).run Try.prog w = .ok (.int .u8 (D.getD j 0 : Nat)) w := by
      intro D hj
      have hc : (u8s D).toArray[j * 1]? = some (.int .u8 (D.getD j 0 : Nat)) := by
        rw [Nat.mul_one, List.getElem?_toArray]; exact u8s_get D j hj
      unfold part
      rw [Sem.run_bind, h2, Result.andThen_ok, hc]
      rfl
    simp only [Op.eqItems, Sem.run_bind, hp D hd, hp E he, Result.andThen_ok]
    rw [run_equalIn_int w d 5 .u8 .u8 _ _ Try.underlying5]
    have ih2 := ih (fun k hk => hD k (by simp [hk])) (fun k hk => hE k (by simp [hk]))
    by_cases e : D.getD j 0 = E.getD j 0
    · have e2 : ((D.getD j 0 : Int) == (E.getD j 0 : Int)) = true := by rw [e]; simp
      have e3 : (D.getD j 0 == E.getD j 0) = true := by simpa using e
      simp only [Result.andThen_ok, List.all_cons, e2, e3, Bool.true_and]
      simpa using ih2
    · have e2 : ((D.getD j 0 : Int) == (E.getD j 0 : Int)) = false := by
        rw [beq_eq_false_iff_ne]; intro h; exact e (by omega)
      have e3 : (D.getD j 0 == E.getD j 0) = false := by simpa using e
      simp only [Result.andThen_ok, List.all_cons, e2, e3, Bool.false_and]
      simp
theorem equalN {T : TypeId} {n : Nat} (hT : Try.prog.underlying T = some (.array n 5)) (D E : List Nat) (hD : D.length = n) (hE : E.length = n) (w : World) :
    (Op.equalIn 10000 T (.agg (u8s D).toArray) (.agg (u8s E).toArray)).run Try.prog w = .ok (decide (D = E)) w := by
  obtain ⟨i, hi⟩ : ∃ i, Try.prog.info? 5 = some i := by
    obtain ⟨i0, hi, _⟩ := info_parts u8info
    exact ⟨i0, hi⟩
  have hc : Try.prog.cellsOf 5 = 1 := by kernel_rfl
  rw [run_equalIn_array w 9999 _ _ hT hi, hc]
  rw [eqItems_any D E 9998 w _ (by intro j hj; rw [hD]; simpa using hj) (by intro j hj; rw [hE]; simpa using hj)]
  obtain ⟨b, hb⟩ : ∃ b, b = ((List.range n).all fun j => D.getD j 0 == E.getD j 0) := ⟨_, rfl⟩
  rw [← hb]
  have e : b = decide (D = E) := by
    rw [hb, Bool.eq_iff_iff, List.all_eq_true, decide_eq_true_iff]
    constructor
    · intro h
      apply List.ext_getElem (by rw [hD, hE])
      intro k h1 h2
      have h3 := h k (by simp; omega)
      simpa [List.getD, h1, h2] using h3
    · rintro rfl j _
      simp
  rw [e]
end Go.Proofs.Ythmjdebnjcopnaa
/- Arrays of 16 bytes held against each other. -/
namespace Go.Proofs.Ythmjdebnjcopnaa
open Go.RowKit

set_option maxRecDepth 100000 in
theorem equal16 (a b : List B8) (ha : a.length = 16) (hb : b.length = 16) (w : World) :
    (Op.equalIn 10000 44 (.agg (u8s (nts a)).toArray) (.agg (u8s (nts b)).toArray)).run Try.prog w = .ok (decide (a = b)) w := by
  obtain ⟨i, hi⟩ : ∃ i, Try.prog.info? 5 = some i := by
    obtain ⟨i0, hi, _⟩ := info_parts u8info
    exact ⟨i0, hi⟩
  have hc : Try.prog.cellsOf 5 = 1 := by kernel_rfl
  rw [run_equalIn_array w 9999 _ _ Try.underlying44 hi, hc]
  rw [eqItems_any (nts a) (nts b) 9998 w _ (by intro j hj; rw [nts_len, ha]; simpa using hj) (by intro j hj; rw [nts_len, hb]; simpa using hj)]
  congr 1
  rw [Bool.eq_iff_iff, List.all_eq_true, decide_eq_true_iff]
  constructor
  · intro h
    refine at8_ext ha hb (fun i hi => b8_inj ?_)
    have h1 := h i (by simpa using hi)
    have e1 : (nts a).getD i 0 = b8 (at8 a i) := by
      have := nts_at a i (by omega)
      simp [List.getD, this]
    have e2 : (nts b).getD i 0 = b8 (at8 b i) := by
      have := nts_at b i (by omega)
      simp [List.getD, this]
    rw [e1, e2] at h1
    simpa using h1
  · rintro rfl j _
    simp
end Go.Proofs.Ythmjdebnjcopnaa
/- Arrays of bytes that came in, by value. -/
namespace Go.Proofs.Ythmjdebnjcopnaa
open Go.ChangeShapes Go.WideShapes Go.ChangeAt Go.RowKit Go.Deep

section
variable {H : Type} {enc : TypeId × Value → H} {P : Program} {w : World} {base : Nat} {spare : Nat → Bool} {held : Bool}

theorem mapM_each {α β : Type} {f : α → Option β} : ∀ (L : List α) (xs : List β), L.mapM f = some xs → ∀ a ∈ L, ∃ y, f a = some y
  | [], _, _, a, ha => by cases ha
  | b :: L, xs, h, a, ha => by
    rw [List.mapM_cons] at h
    simp only [bind, Option.bind_eq_some_iff, pure, Option.some.injEq] at h
    obtain ⟨y, hy, ys, hys, rfl⟩ := h
    rcases List.mem_cons.1 ha with rfl | ha
    · exact ⟨y, hy⟩
    · exact mapM_each L ys hys a ha
/-- A byte by its number. -/
theorem byte_of {b : Int} (h : (Lit.int .u8 b).wf = true) : ∃ x : B8, b = (b8 x : Int) := by
  have h1 : IntKind.u8.min ≤ b ∧ b ≤ IntKind.u8.max := by simpa [Lit.wf] using h
  have e1 : IntKind.u8.min = 0 := rfl
  have e2 : IntKind.u8.max = 255 := rfl
  refine ⟨BitVec.ofNat 8 b.toNat, ?_⟩
  rw [b8_of _ (by omega)]; omega
theorem view_arr {t e : TypeId} {n : Nat} {v : Value} {d : DataW H} {ps : List MemPlace} {r : Reach} {b0 : Nat} {ts : List TypeId} {ds : List (DataW H)} {j : Nat}
    (hu : P.underlying t = some (.array n e)) (hf : P.underlying e = some (.int .u8)) (hc : P.cellsOf e = 1) (hct : P.cellsOf t = n)
    (hval : Value.okWide P w r b0 t v) (h : DataW.Trod enc P w base spare held t v d ps) (_hlt : ∀ x ∈ ps, x.block < w.heap.size)
    (_hsz : (DataW.weightsEach P ts ds).all (· ≤ reachBytes) = true) (_ht : ts[j]? = some t) (_hd : ds[j]? = some d) : ∃ b : List B8, b.length = n ∧ v = .agg (u8s (nts b)).toArray := by
  simp only [Value.okWide, hu] at hval
  obtain ⟨cs, rfl, hs, _⟩ := hval
  rw [hct] at hs
  obtain ⟨fuel, hf1⟩ := h
  cases fuel with
  | zero => simp [DataW.trod] at hf1
  | succ m =>
    rw [DataW.trod_step] at hf1
    unfold DataW.trodStep at hf1
    simp only [hu, Value.cells] at hf1
    rw [if_pos (by rw [hct]; simpa using hs)] at hf1
    simp only [Option.map_eq_some_iff] at hf1
    obtain ⟨xs, hxs, _⟩ := hf1
    have hel : ∀ i, i < n → ∃ x : B8, cs[i]? = some (.int .u8 (b8 x : Int)) := by
      intro i hi
      obtain ⟨y, hy⟩ := mapM_each _ _ hxs i (by simpa using hi)
      obtain ⟨b, hb, _, hw⟩ := DataW.trod_int hf hy
      obtain ⟨x, rfl⟩ := byte_of hw
      refine ⟨x, ?_⟩
      rw [hc, Nat.mul_one] at hb
      have hlt : i < cs.toList.length := by simp; omega
      rw [List.drop_eq_getElem_cons hlt, List.take_succ_cons, List.take_zero] at hb
      simp only [List.cons.injEq, and_true] at hb
      rw [Array.getElem?_eq_getElem (by omega)]
      simpa using hb
    obtain ⟨B, hB⟩ := choose_lt (α := B8) (p := fun i x => cs[i]? = some (.int .u8 (b8 x : Int))) hel
    refine ⟨(List.range n).map B, by simp, ?_⟩
    congr 1
    apply Array.ext_getElem?
    intro i
    by_cases hi : i < n
    · rw [hB i hi]
      simp [u8s, nts, hi]
    · rw [Array.getElem?_eq_none (by omega), Array.getElem?_eq_none (by simp [u8s, nts]; omega)]
end
end Go.Proofs.Ythmjdebnjcopnaa
/- The program's columnOf, number, RotateLeft32 of a column: four bytes as one number. -/
namespace Go.Proofs.Ythmjdebnjcopnaa
open Go.RowKit

/-- Four bytes as a number, the first one the highest. -/
def num4 (a b c d : B8) : Nat := b8 a * 16777216 + b8 b * 65536 + b8 c * 256 + b8 d
theorem num4_lt (a b c d : B8) : num4 a b c d < 4294967296 := by
  have := b8_lt a; have := b8_lt b; have := b8_lt c; have := b8_lt d
  unfold num4; omega
theorem num4_bv (a b c d : B8) : num4 a b c d = (a ++ b ++ c ++ d).toNat := by
  have ha := b8_lt a; have hb := b8_lt b; have hc := b8_lt c; have hd := b8_lt d
  unfold num4
  unfold b8 at *
  simp only [BitVec.toNat_append]
  rw [← Nat.shiftLeft_add_eq_or_of_lt (b := d.toNat) (i := 8) hd, ← Nat.shiftLeft_add_eq_or_of_lt (b := c.toNat) (i := 8) hc, ← Nat.shiftLeft_add_eq_or_of_lt (b := b.toNat) (i := 8) hb]
  simp only [Nat.shiftLeft_eq]
  omega
theorem xor4n (a b c d a' b' c' d' : B8) : bits .xor .u32 (num4 a b c d : Int) (num4 a' b' c' d' : Int) = (num4 (a ^^^ a') (b ^^^ b') (c ^^^ c') (d ^^^ d') : Int) := by
  rw [u32_xor_nat _ _ (num4_lt _ _ _ _) (num4_lt _ _ _ _), num4_bv, num4_bv, num4_bv, ← BitVec.xor_append, ← BitVec.xor_append, ← BitVec.xor_append, BitVec.toNat_xor]
theorem or_high (k K x z X : Nat) (hk : K = 2 ^ k) (hX : X = x * K) (hx : X < 4294967296) (hz : z < K) (hK : K ≤ 4294967296) : bits .or .u32 (X : Int) (z : Int) = ((X + z : Nat) : Int) := by
  rw [u32_or_nat _ _ hx (by omega), hX, hk, ← Nat.shiftLeft_eq, ← Nat.shiftLeft_add_eq_or_of_lt (by omega)]
theorem or_num4 (a b c d : B8) : bits .or .u32 (bits .or .u32 (bits .or .u32 ((b8 a : Int) * 16777216) ((b8 b : Int) * 65536)) ((b8 c : Int) * 256)) (b8 d : Int) = (num4 a b c d : Int) := by
  have ha := b8_lt a; have hb := b8_lt b; have hc := b8_lt c; have hd := b8_lt d
  unfold num4
  generalize b8 a = p at *; generalize b8 b = q at *; generalize b8 c = r at *; generalize b8 d = t at *
  have e1 : bits .or .u32 ((p : Int) * 16777216) ((q : Int) * 65536) = ((p * 16777216 + q * 65536 : Nat) : Int) := or_high 24 16777216 p (q * 65536) (p * 16777216) (by decide) rfl (by omega) (by omega) (by decide)
  have e2 : bits .or .u32 ((p * 16777216 + q * 65536 : Nat) : Int) ((r : Int) * 256) = ((p * 16777216 + q * 65536 + r * 256 : Nat) : Int) := or_high 16 65536 (p * 256 + q) (r * 256) _ (by decide) (by omega) (by omega) (by omega) (by decide)
  rw [e1, e2]
  exact or_high 8 256 (p * 65536 + q * 256 + r) t _ (by decide) (by omega) (by omega) (by omega) (by decide)
theorem i55 : (Try.prog.info? 80).map (·.size) = some 4 := by kernel_rfl
/-- A column as a value. -/
abbrev colV (a b c d : B8) : Value := .agg (u8s (nts [a, b, c, d])).toArray
theorem columnOf_any (a b c d : B8) (w : World) :
    Calls Try.prog 61 #[.int .u32 (num4 a b c d : Nat)] w fun e w' => e = .returned (colV a b c d) ∧ But (fun _ => False) w w' := by
  have hN := num4_lt a b c d
  have ha := b8_lt a; have hb := b8_lt b; have hc := b8_lt c; have hd := b8_lt d
  obtain ⟨N, hNe⟩ : ∃ N, N = num4 a b c d := ⟨_, rfl⟩
  rw [← hNe] at hN ⊢
  have e1 : Hid ((N : Int) / 16777216 = (b8 a : Int)) := by show _ = _; rw [hNe]; unfold num4; omega
  have e2 : Hid ((N : Int) / 65536 % 256 = (b8 b : Int)) := by show _ = _; rw [hNe]; unfold num4; omega
  have e3 : Hid ((N : Int) / 256 % 256 = (b8 c : Int)) := by show _ = _; rw [hNe]; unfold num4; omega
  have e4 : Hid ((N : Int) % 256 = (b8 d : Int)) := by show _ = _; rw [hNe]; unfold num4; omega
  clear hNe ha hb hc hd
  go_enter Try.func61, Try.ntmps61
  go_wp2
  rw [e1.out, e2.out, e3.out, e4.out]
  refine bodyPost_ret (results_cell_row rfl _ _ w.heap.size _ _ _ _ rfl (heap_alloc_new _ _) Try.underlying80 rfl (by rw [i55]; rfl)) rfl ⟨rfl, (But.refl _ w).alloc _⟩
theorem number_any (a b c d : B8) (w : World) :
    Calls Try.prog 62 #[colV a b c d] w fun e w' => e = .returned (.int .u32 (num4 a b c d : Nat)) ∧ But (fun _ => False) w w' := by
  have ha := b8_lt a; have hb := b8_lt b; have hc := b8_lt c; have hd := b8_lt d
  have ho := Hid.mk' (or_num4 a b c d)
  have hB : Blk (w.alloc (.cells (u8s (nts [a, b, c, d])).toArray 80)) w.heap.size 80 (u8s (nts [a, b, c, d])) := Blk.new rfl
  have c0 := blk_nts hB 0 (by simp)
  have c1 := blk_nts hB 1 (by simp)
  have c2 := blk_nts hB 2 (by simp)
  have c3 := blk_nts hB 3 (by simp)
  rw [show at8 [a, b, c, d] 0 = a from rfl] at c0
  rw [show at8 [a, b, c, d] 1 = b from rfl] at c1
  rw [show at8 [a, b, c, d] 2 = c from rfl] at c2
  rw [show at8 [a, b, c, d] 3 = d from rfl] at c3
  clear hB
  go_enter Try.func62, Try.ntmps62
  go_wp2
  go_ret
  refine ⟨?_, (But.refl _ w).alloc _⟩
  rw [← ho.out]; rfl
/-- A column turned by so many bytes. -/
theorem rot_or (k K m M X Y N : Nat) (hK : K = 2 ^ k) (hM : M = 2 ^ m) (h1 : N * K % 4294967296 = X * K) (h2 : N / M = Y) (hx : X * K < 4294967296) (hy : Y < K) (hk : K ≤ 4294967296) :
    bits .or .u32 ((N : Int) * 2 ^ k % 4294967296) ((N : Int) / 2 ^ m) = ((X * K + Y : Nat) : Int) := by
  have e1 : (N : Int) * 2 ^ k % 4294967296 = ((X * K : Nat) : Int) := by
    rw [← h1, hK]; simp
  have e2 : (N : Int) / 2 ^ m = (Y : Int) := by rw [← h2, hM]; simp
  rw [e1, e2]
  exact or_high k K X Y (X * K) hK rfl hx hy hk
theorem rotn_any (N R n m : Nat) (_hN : N < 4294967296) (h1 : 1 ≤ n) (h2 : n ≤ 31) (hm : m = 32 - n) (hr : bits .or .u32 ((N : Int) * 2 ^ m % 4294967296) ((N : Int) / 2 ^ n) = (R : Int)) (w : World) :
    Calls Try.prog 64 #[.int .u32 N, .int .i64 (-(n : Int))] w fun e w' => e = .returned (.int .u32 R) ∧ w' = w := by
  have hs : bits .and .u64 (IntKind.u64.wrap (-(n : Int))) 31 = (m : Int) := by
    rw [show IntKind.u64.wrap (-(n : Int)) = (-(n : Int)) % 18446744073709551616 by simp [IntKind.wrap, IntKind.bits, IntKind.signed], show (-(n : Int)) % 18446744073709551616 = ((18446744073709551616 - n : Nat) : Int) by omega]
    have e := u64_and_nat (18446744073709551616 - n) 31 (by omega) (by decide)
    have e2 : (18446744073709551616 - n) &&& 31 = m := by
      rw [show (31 : Nat) = 2 ^ 5 - 1 by rfl, Nat.and_two_pow_sub_one_eq_mod]; omega
    rw [e2] at e
    exact e
  have hm1 : 1 ≤ m := by omega
  have hm2 : m ≤ 31 := by omega
  have hq : (32 - (m : Int)) = (n : Int) := by omega
  have HR := Hid.mk' hr
  clear hm hr
  go_enter Try.func64, Try.ntmps64
  go_wp2
  go_ret
  refine ⟨?_, rfl⟩
  rw [← HR.out]; rfl
theorem rot0_any (N : Nat) (hN : N < 4294967296) (w : World) :
    Calls Try.prog 64 #[.int .u32 N, .int .i64 0] w fun e w' => e = .returned (.int .u32 N) ∧ w' = w := by
  have hs : bits .and .u64 0 31 = 0 := by decide +kernel
  have hr : bits .or .u32 (N : Int) 0 = (N : Int) := by
    have := u32_or_nat N 0 hN (by decide)
    simpa using this
  have hd : (N : Int) / 4294967296 = 0 := by omega
  have HR : Hid (bits .or .u32 (N : Int) ((N : Int) / 4294967296) = (N : Int)) := by show _ = _; rw [hd]; exact hr
  clear hr hd
  go_enter Try.func64, Try.ntmps64
  go_wp2
  go_ret
  refine ⟨?_, rfl⟩
  refine congrArg (fun x => Ending.returned (.int .u32 x)) HR.out
/-- Byte j of four that are turned by i behind. -/
def rot4 (a b c d : B8) : Nat → Nat
  | 0 => num4 a b c d
  | 1 => num4 d a b c
  | 2 => num4 c d a b
  | _ => num4 b c d a
theorem rot_any (a b c d : B8) (i : Nat) (hi : i < 4) (z : Int) (hz : z = -8 * (i : Int)) (w : World) :
    Calls Try.prog 64 #[.int .u32 (num4 a b c d : Nat), .int .i64 z] w fun e w' => e = .returned (.int .u32 (rot4 a b c d i : Nat)) ∧ w' = w := by
  have hN := num4_lt a b c d
  have ha := b8_lt a; have hb := b8_lt b; have hc := b8_lt c; have hd := b8_lt d
  subst hz
  match i, hi with
  | 0, _ => exact rot0_any _ hN w
  | 1, _ =>
    refine rotn_any _ _ 8 24 hN (by decide) (by decide) rfl ?_ w
    rw [rot_or 24 16777216 8 256 (b8 d) (b8 a * 65536 + b8 b * 256 + b8 c) _ (by decide) (by decide) (by unfold num4; omega) (by unfold num4; omega) (by omega) (by omega) (by decide)]
    rw [show b8 d * 16777216 + (b8 a * 65536 + b8 b * 256 + b8 c) = rot4 a b c d 1 by show _ = num4 d a b c; unfold num4; omega]
  | 2, _ =>
    refine rotn_any _ _ 16 16 hN (by decide) (by decide) rfl ?_ w
    rw [rot_or 16 65536 16 65536 (b8 c * 256 + b8 d) (b8 a * 256 + b8 b) _ (by decide) (by decide) (by unfold num4; omega) (by unfold num4; omega) (by omega) (by omega) (by decide)]
    rw [show (b8 c * 256 + b8 d) * 65536 + (b8 a * 256 + b8 b) = rot4 a b c d 2 by show _ = num4 c d a b; unfold num4; omega]
  | 3, _ =>
    refine rotn_any _ _ 24 8 hN (by decide) (by decide) rfl ?_ w
    rw [rot_or 8 256 24 16777216 (b8 b * 65536 + b8 c * 256 + b8 d) (b8 a) _ (by decide) (by decide) (by unfold num4; omega) (by unfold num4; omega) (by omega) (by omega) (by decide)]
    rw [show (b8 b * 65536 + b8 c * 256 + b8 d) * 256 + (b8 a) = rot4 a b c d 3 by show _ = num4 b c d a; unfold num4; omega]
end Go.Proofs.Ythmjdebnjcopnaa
/- The program's boxed, unboxed, mixedBoxes: columns. -/
namespace Go.Proofs.Ythmjdebnjcopnaa
open Go.RowKit

/-- The first k bytes of four by a map. -/
def part4 (f : B8 → B8) (l : List B8) (k : Nat) : List B8 :=
  [if 0 < k then f (at8 l 0) else at8 l 0, if 1 < k then f (at8 l 1) else at8 l 1, if 2 < k then f (at8 l 2) else at8 l 2, if 3 < k then f (at8 l 3) else at8 l 3]
def map4 (f : B8 → B8) (l : List B8) : List B8 := [f (at8 l 0), f (at8 l 1), f (at8 l 2), f (at8 l 3)]
theorem four_eta {l : List B8} (h : l.length = 4) : [at8 l 0, at8 l 1, at8 l 2, at8 l 3] = l := by
  match l, h with
  | [a, b, c, d], _ => rfl
theorem part4_zero {f : B8 → B8} {l : List B8} (h : l.length = 4) : part4 f l 0 = l := four_eta h
theorem part4_all (f : B8 → B8) (l : List B8) : part4 f l 4 = map4 f l := rfl
theorem part4_len (f : B8 → B8) (l : List B8) (k : Nat) : (part4 f l k).length = 4 := rfl
theorem part4_at (f : B8 → B8) (l : List B8) (k : Nat) (h : k < 4) : at8 (part4 f l k) k = at8 l k := by
  match k, h with
  | 0, _ => rfl
  | 1, _ => rfl
  | 2, _ => rfl
  | 3, _ => rfl
theorem part4_set (f : B8 → B8) (l : List B8) (k : Nat) (h : k < 4) : (part4 f l k).set k (f (at8 l k)) = part4 f l (k + 1) := by
  match k, h with
  | 0, _ => rfl
  | 1, _ => rfl
  | 2, _ => rfl
  | 3, _ => rfl
theorem u4l (l : List B8) (h : l.length = 4) : (u8s (nts l)).length = 4 := by unfold u8s; rw [List.length_map, nts_len]; exact h
theorem n4 (l : List B8) (h : l.length = 4) : (nts l).length = 4 := by rw [nts_len]; exact h
theorem zero4 (w : World) : (zeroValue 80).run Try.prog w = .ok (.agg (u8s (List.replicate 4 0)).toArray) w := by kernel_rfl
/-- What memory is amid a map over a column. -/
structure ColI (w : World) (g : Nat) (l : List B8) (wr : World) : Prop where
  src : Blk wr g 80 (u8s (nts l))
  res : Blk wr (g + 1) 80 (u8s (List.replicate 4 0))
  but : But (fun _ => False) w wr
set_option maxRecDepth 100000 in
set_option maxHeartbeats 1000000 in
theorem cboxed_any {w : World} {gb : Nat} {l : List B8} (hb : Bxs w gb) (hl : l.length = 4) :
    Calls Try.prog 45 #[.agg (u8s (nts l)).toArray, .pointer (some ⟨gb, 0, none⟩)] w fun e w' => e = .returned (.agg (u8s (nts (map4 bx l))).toArray) ∧ But (fun _ => False) w w' := by
  have hz := zero4
  obtain ⟨Z, hZ⟩ : ∃ Z, Z = (u8s (List.replicate 4 0)).toArray := ⟨_, rfl⟩
  rw [← hZ] at hz
  obtain ⟨C, hC⟩ : ∃ C, C = (u8s (nts l)).toArray := ⟨_, rfl⟩
  rw [← hC]
  have HZ := Hid.mk' hZ
  have HC := Hid.mk' hC
  have HB := Hid.mk' hb
  clear hZ hC hb
  go_enter Try.func45, Try.ntmps45
  go_wp2
  obtain ⟨g, hg⟩ : ∃ g, g = w.heap.size := ⟨_, rfl⟩
  have hI : ColI w g (part4 bx l 0) ((w.alloc (.cells C 80)).alloc (.cells Z 80)) := by
    rw [HC.out, HZ.out, part4_zero hl]
    refine ⟨(Blk.new hg.symm).but ((But.refl (fun _ => False) _).alloc _) (fun h => h), Blk.new (by simp [hg]), ((But.refl _ w).alloc _).alloc _⟩
  rw [← hg]
  generalize ((w.alloc (.cells C 80)).alloc (.cells Z 80)) = W0 at *
  have HI := Hid.mk' hI
  have HG := Hid.mk' hg
  clear hI hg hz HZ HC
  go_loopw [6] (fun i wr => ∃ k : Nat, k ≤ 4 ∧ i = .int .i64 k ∧ ColI w g (part4 bx l k) wr) (fun i _ => 4 - (intOf i).toNat)
  case atStart => exact ⟨0, by decide, rfl, HI.out⟩
  case round =>
    obtain ⟨k, hk, rfl, hI⟩ := hrel
    by_cases hlt : k < 4
    · have hki : (k : Int) < 4 := by omega
      have c1 := blk_nts hI.src k (by rw [part4_len]; exact hlt)
      rw [part4_at _ l k hlt] at c1
      have hfr := hI.src.free k
      have HB2 := Hid.mk' (HB.out.but hI.but (fun h => h))
      have HI2 := Hid.mk' hI
      clear hI HI
      obtain ⟨x, hx⟩ : ∃ x, x = at8 l k := ⟨_, rfl⟩
      rw [← hx] at c1
      have HX := Hid.mk' hx
      clear hx
      go_wp2_with (go_at_call 66; refine Calls.mono (box_any HB2.out x) ?_; rintro e w1 ⟨rfl, hw⟩; have hw' := hw.symm; subst hw')
      refine ⟨⟨k + 1, by omega, by go_num, ?_⟩, by simp [intOf]; omega⟩
      have h := HI2.out
      have hs : But (· = g) wr (wr.setCell ⟨g, k, none⟩ (.int .u8 (b8 (bx x) : Nat))) := (But.refl (· = g) wr).setCell (p := ⟨g, k, none⟩) (fun _ => rfl) _
      refine ⟨?_, h.res.but hs (show ¬ (g + 1 = g) by omega), h.but.then hs (fun i hi e => by have := HG.out; omega)⟩
      rw [← part4_set _ l k hlt, HX.out]
      exact blk_nts_set h.src k _
    · have hk4 : k = 4 := by omega
      subst hk4
      rw [part4_all] at hI
      have HI2 := Hid.mk' hI
      clear hI HI
      obtain ⟨M, hM⟩ : ∃ M, M = map4 bx l := ⟨_, rfl⟩
      have HML : Hid ((nts M).length = 4) := by show _ = _; rw [hM, nts_len]; rfl
      rw [← hM] at HI2
      have HM := Hid.mk' hM
      clear hM
      go_wp2_with (first
        | (refine wpList_load_u8s Try.underlying80 i55 rfl _ rfl g (nts M) HML.out rfl HI2.out.src ?_)
        | (refine wpList_store_u8s i55 rfl _ _ rfl (g + 1) (nts M) HML.out rfl (by exact rfl) _ (by simp [u8s]) HI2.out.res ?_; intro w2 hb2 hbut2))
      refine bodyPost_ret (results_cell_row rfl _ _ (g + 1) _ _ _ _ rfl hb2 Try.underlying80 rfl (by rw [i55]; simp [u8s, HML.out])) rfl ⟨by rw [HM.out], ?_⟩
      exact HI2.out.but.then hbut2 (fun i hi e => by have := HG.out; omega)
end Go.Proofs.Ythmjdebnjcopnaa
/- The program's mixedBoxes and unmixed. -/
namespace Go.Proofs.Ythmjdebnjcopnaa
open Go.RowKit

/-- A column by factors. -/
def colMix (f l : List B8) : List B8 := [mixSum f l 0 4, mixSum f l 1 4, mixSum f l 2 4, mixSum f l 3 4]
theorem colMix_len (f l : List B8) : (colMix f l).length = 4 := rfl
theorem col_num4 (s : B8) : col s = num4 (tm 2#8 s) s s (tm 3#8 s) := rfl
theorem tm1 (s : B8) : tm 1#8 s = s := one_tm s
theorem mix_next (l : List B8) (k : Nat) (h : k < 4) :
    bits .xor .u32 (num4 (mixSum fwd l 0 k) (mixSum fwd l 1 k) (mixSum fwd l 2 k) (mixSum fwd l 3 k) : Int) (rot4 (tm 2#8 (at8 l k)) (at8 l k) (at8 l k) (tm 3#8 (at8 l k)) k : Int)
      = (num4 (mixSum fwd l 0 (k + 1)) (mixSum fwd l 1 (k + 1)) (mixSum fwd l 2 (k + 1)) (mixSum fwd l 3 (k + 1)) : Int) := by
  match k, h with
  | 0, _ => refine (xor4n _ _ _ _ (tm 2#8 (at8 l 0)) (at8 l 0) (at8 l 0) (tm 3#8 (at8 l 0))).trans ?_; simp [mixSum, fwd, at8, tm1]
  | 1, _ => refine (xor4n _ _ _ _ (tm 3#8 (at8 l 1)) (tm 2#8 (at8 l 1)) (at8 l 1) (at8 l 1)).trans ?_; simp [mixSum, fwd, at8, tm1]
  | 2, _ => refine (xor4n _ _ _ _ (at8 l 2) (tm 3#8 (at8 l 2)) (tm 2#8 (at8 l 2)) (at8 l 2)).trans ?_; simp [mixSum, fwd, at8, tm1]
  | 3, _ => refine (xor4n _ _ _ _ (at8 l 3) (at8 l 3) (tm 3#8 (at8 l 3)) (tm 2#8 (at8 l 3))).trans ?_; simp [mixSum, fwd, at8, tm1]
theorem rot4_lt (a b c d : B8) (i : Nat) : rot4 a b c d i < 4294967296 := by
  unfold rot4; split <;> exact num4_lt _ _ _ _
theorem map4_at (f : B8 → B8) (l : List B8) (k : Nat) (h : k < 4) : at8 (map4 f l) k = f (at8 l k) := by
  match k, h with
  | 0, _ => rfl
  | 1, _ => rfl
  | 2, _ => rfl
  | 3, _ => rfl
set_option maxRecDepth 100000 in
set_option maxHeartbeats 1000000 in
theorem mixedBoxes_any {w : World} {gb : Nat} {l : List B8} (hb : Bxs w gb) (hl : l.length = 4) :
    Calls Try.prog 44 #[.agg (u8s (nts l)).toArray, .pointer (some ⟨gb, 0, none⟩)] w fun e w' => e = .returned (.agg (u8s (nts (colMix fwd (map4 bx l)))).toArray) ∧ But (fun _ => False) w w' := by
  have hz := zero4
  obtain ⟨Z, hZ⟩ : ∃ Z, Z = (u8s (List.replicate 4 0)).toArray := ⟨_, rfl⟩
  rw [← hZ] at hz
  obtain ⟨C, hC⟩ : ∃ C, C = (u8s (nts l)).toArray := ⟨_, rfl⟩
  rw [← hC]
  have HZ := Hid.mk' hZ
  have HC := Hid.mk' hC
  have HB := Hid.mk' hb
  clear hZ hC hb
  obtain ⟨m, hm⟩ : ∃ m, m = map4 bx l := ⟨_, rfl⟩
  rw [← hm]
  have HM := Hid.mk' hm
  clear hm
  go_enter Try.func44, Try.ntmps44
  go_wp2
  obtain ⟨g, hg⟩ : ∃ g, g = w.heap.size := ⟨_, rfl⟩
  have hI : ColI w g l ((w.alloc (.cells C 80)).alloc (.cells Z 80)) := by
    rw [HC.out, HZ.out]
    refine ⟨(Blk.new hg.symm).but ((But.refl (fun _ => False) _).alloc _) (fun h => h), Blk.new (by simp [hg]), ((But.refl _ w).alloc _).alloc _⟩
  rw [← hg]
  generalize ((w.alloc (.cells C 80)).alloc (.cells Z 80)) = W0 at *
  have HI := Hid.mk' hI
  have HG := Hid.mk' hg
  clear hI hg hz HZ HC
  go_loopw [5, 7] (fun s i wr => ∃ k : Nat, k ≤ 4 ∧ i = .int .i64 k ∧ s = .int .u32 (num4 (mixSum fwd m 0 k) (mixSum fwd m 1 k) (mixSum fwd m 2 k) (mixSum fwd m 3 k) : Nat) ∧ wr = W0) (fun _ i _ => 4 - (intOf i).toNat)
  case atStart => exact ⟨0, by decide, rfl, by show _ = Value.int .u32 ((num4 0 0 0 0 : Nat) : Int); rw [show num4 0 0 0 0 = 0 by unfold num4 b8; simp]; rfl, rfl⟩
  case round =>
    obtain ⟨k, hk, rfl, rfl, rfl⟩ := hrel
    by_cases hlt : k < 4
    · have hki : (k : Int) < 4 := by omega
      have c1 := blk_nts HI.out.src k (by rw [hl]; exact hlt)
      have HB2 := Hid.mk' (HB.out.but HI.out.but (fun h => h))
      obtain ⟨z, hz⟩ : ∃ z : Int, z = -8 * (k : Int) := ⟨_, rfl⟩
      have hn := mix_next m k hlt
      have hme : at8 m k = bx (at8 l k) := by rw [HM.out]; exact map4_at bx l k hlt
      rw [hme] at hn
      obtain ⟨x, hx⟩ : ∃ x, x = at8 l k := ⟨_, rfl⟩
      rw [← hx] at c1 hn
      obtain ⟨R, hR⟩ : ∃ R, R = rot4 (tm 2#8 (bx x)) (bx x) (bx x) (tm 3#8 (bx x)) k := ⟨_, rfl⟩
      rw [← hR] at hn
      have hRl : R < 4294967296 := by rw [hR]; exact rot4_lt _ _ _ _ _
      have HROT := Hid.mk' (rot_any (tm 2#8 (bx x)) (bx x) (bx x) (tm 3#8 (bx x)) k hlt z hz wr)
      rw [← hR, ← col_num4] at HROT
      have HZ := Hid.mk' hz
      have hw1 : IntKind.i64.wrap (-8 * (k : Int)) = z := by rw [hz]; simp [IntKind.wrap, IntKind.bits, IntKind.signed]; omega
      obtain ⟨S, hS⟩ : ∃ S, S = num4 (mixSum fwd m 0 k) (mixSum fwd m 1 k) (mixSum fwd m 2 k) (mixSum fwd m 3 k) := ⟨_, rfl⟩
      rw [← hS] at hn ⊢
      have hSl : S < 4294967296 := by rw [hS]; exact num4_lt _ _ _ _
      obtain ⟨S2, hS2⟩ : ∃ S, S = num4 (mixSum fwd m 0 (k + 1)) (mixSum fwd m 1 (k + 1)) (mixSum fwd m 2 (k + 1)) (mixSum fwd m 3 (k + 1)) := ⟨_, rfl⟩
      rw [← hS2] at hn
      have HS2 := Hid.mk' hS2
      clear hx hR hS hS2 hz hme
      go_wp2_with (first
        | (go_at_call 65; refine Calls.mono (mix_any HB2.out x) ?_; rintro e w1 ⟨rfl, hw⟩; have hw' := hw.symm; subst hw')
        | (go_at_call 64; refine Calls.mono HROT.out ?_; rintro e w1 ⟨rfl, hw⟩; have hw' := hw.symm; subst hw'))
      refine ⟨⟨k + 1, by omega, by go_num, by rw [HS2.out], trivial⟩, by simp [intOf]; omega⟩
    · have hk4 : k = 4 := by omega
      subst hk4
      have HCO := Hid.mk' (columnOf_any (mixSum fwd m 0 4) (mixSum fwd m 1 4) (mixSum fwd m 2 4) (mixSum fwd m 3 4) wr)
      obtain ⟨M, hM⟩ : ∃ M, M = colMix fwd m := ⟨_, rfl⟩
      have HML : Hid ((nts M).length = 4) := by show _ = _; rw [hM, nts_len]; rfl
      have HM2 := Hid.mk' hM
      obtain ⟨V, hV⟩ : ∃ V, V = (u8s (nts M)).toArray := ⟨_, rfl⟩
      have hVV : (u8s (nts [mixSum fwd m 0 4, mixSum fwd m 1 4, mixSum fwd m 2 4, mixSum fwd m 3 4])).toArray = V := by rw [hV, hM]; rfl
      have HV := Hid.mk' hV
      unfold colV at HCO
      rw [hVV] at HCO
      generalize num4 (mixSum fwd m 0 4) (mixSum fwd m 1 4) (mixSum fwd m 2 4) (mixSum fwd m 3 4) = S at *
      clear hM hV hVV
      go_wp2_with fail
      refine Calls.mono HCO.out ?_
      rintro e w1 ⟨rfl, hbut⟩
      have HI2 := Hid.mk' (HI.out.res.but hbut (fun h => h))
      have HBT := Hid.mk' hbut
      clear hbut HCO
      go_wp2_with (refine wpList_store_u8s i55 rfl _ _ rfl (g + 1) (nts M) HML.out rfl (by exact congrArg Value.agg HV.out) _ (by simp [u8s]) HI2.out ?_; intro w2 hb2 hbut2)
      refine bodyPost_ret (results_cell_row rfl _ _ (g + 1) _ _ _ _ rfl hb2 Try.underlying80 rfl (by rw [i55]; simp [u8s, HML.out])) rfl ⟨by rw [HM2.out], ?_⟩
      exact (HI.out.but.trans HBT.out).then hbut2 (fun i hi e => by have := HG.out; omega)
/-- A column mixed so many times. -/
def mixN (l : List B8) : Nat → List B8
  | 0 => l
  | k + 1 => colMix fwd (mixN l k)
theorem mixN_len {l : List B8} (h : l.length = 4) (k : Nat) : (mixN l k).length = 4 := by
  cases k
  · exact h
  · rfl
theorem map4_back {l : List B8} (h : l.length = 4) : map4 bx (map4 bk l) = l := by
  match l, h with
  | [a, b, c, d], _ => simp [map4, at8, bx_bk]
end Go.Proofs.Ythmjdebnjcopnaa
/- The program's turned and turnedBack: states of four columns, as sixteen bytes. -/
namespace Go.Proofs.Ythmjdebnjcopnaa
open Go.RowKit

theorem wrapI (n : Int) (h1 : -9223372036854775808 ≤ n) (h2 : n < 9223372036854775808) : IntKind.i64.wrap n = n := by
  simp [IntKind.wrap, IntKind.bits, IntKind.signed]; omega
def fwdI (i : Nat) : Nat := 4 * ((i / 4 + i % 4) % 4) + i % 4
def backI (i : Nat) : Nat := 4 * ((i / 4 + (4 - i % 4)) % 4) + i % 4
theorem fwdI_lt : ∀ i, i < 16 → fwdI i < 16 := by decide
theorem backI_lt : ∀ i, i < 16 → backI i < 16 := by decide
theorem back_fwdI : ∀ i, i < 16 → backI (fwdI i) = i := by decide
theorem fwd_backI : ∀ i, i < 16 → fwdI (backI i) = i := by decide
def turnS (s : List B8) : List B8 := mk16 fun i => at8 s (fwdI i)
def untS (s : List B8) : List B8 := mk16 fun i => at8 s (backI i)
theorem turnS_len (s : List B8) : (turnS s).length = 16 := mk16_len _
theorem untS_len (s : List B8) : (untS s).length = 16 := mk16_len _
/-- The places whose number q tells is below m are filled. -/
def fill (q : Nat → Nat) (v : Nat → B8) (m : Nat) : List B8 := mk16 fun j => if q j < m then v j else 0
theorem fill_len (q : Nat → Nat) (v : Nat → B8) (m : Nat) : (fill q v m).length = 16 := mk16_len _
theorem rep_at (i : Nat) (hi : i < 16) : at8 (List.replicate 16 (0 : B8)) i = 0 := by unfold at8 List.getD; rw [List.getElem?_replicate, if_pos hi]; rfl
theorem fill_zero (q : Nat → Nat) (v : Nat → B8) : fill q v 0 = List.replicate 16 0 := by
  refine at8_ext (fill_len _ _ _) (by simp) (fun i hi => ?_)
  rw [rep_at i hi]
  unfold fill
  rw [mk16_at _ i hi, if_neg (Nat.not_lt_zero _)]
theorem fill_all {q : Nat → Nat} (hq : ∀ j, j < 16 → q j < 16) (v : Nat → B8) : fill q v 16 = mk16 v := by
  refine at8_ext (fill_len _ _ _) (mk16_len _) (fun i hi => ?_)
  unfold fill
  rw [mk16_at _ i hi, mk16_at _ i hi, if_pos (hq i hi)]
theorem fill_set {q : Nat → Nat} (v : Nat → B8) (m p : Nat) (hp : p < 16) (hqp : q p = m) (hne : ∀ j, j < 16 → q j = m → j = p) : (fill q v m).set p (v p) = fill q v (m + 1) := by
  refine at8_ext (by rw [List.length_set]; exact fill_len _ _ _) (fill_len _ _ _) (fun i hi => ?_)
  rw [at8_set _ _ _ _ (by rw [fill_len]; exact hp)]
  unfold fill
  rw [mk16_at _ i hi, mk16_at _ i hi]
  by_cases h : i = p
  · subst h; rw [if_pos rfl, if_pos (by omega)]
  · rw [if_neg h]
    by_cases h2 : q i < m
    · rw [if_pos h2, if_pos (by omega)]
    · have : q i ≠ m := fun e => h (hne i hi e)
      rw [if_neg h2, if_neg (by omega)]
theorem i57 : (Try.prog.info? 82).map (·.size) = some 16 := by kernel_rfl
theorem zeroS (w : World) : (zeroValue 82).run Try.prog w = .ok (.agg (u8s (List.replicate 16 0)).toArray) w := by kernel_rfl
theorem nts_rep : nts (List.replicate 16 (0 : B8)) = List.replicate 16 0 := by decide
theorem u16l (l : List B8) (h : l.length = 16) : (u8s (nts l)).length = 16 := by unfold u8s; rw [List.length_map, nts_len]; exact h
/-- What memory is amid a turn. -/
structure TurnI (w : World) (g : Nat) (s t : List B8) (wr : World) : Prop where
  src : Blk wr g 82 (u8s (nts s))
  res : Blk wr (g + 1) 82 (u8s (List.replicate 16 0))
  dst : Blk wr (g + 2) 82 (u8s (nts t))
  but : But (fun _ => False) w wr
set_option maxRecDepth 100000 in
set_option maxHeartbeats 1000000 in
theorem turned_any {w : World} {s : List B8} (hs : s.length = 16) :
    Calls Try.prog 43 #[.agg (u8s (nts s)).toArray] w fun e w' => e = .returned (.agg (u8s (nts (turnS s))).toArray) ∧ But (fun _ => False) w w' := by
  have hz := zeroS
  obtain ⟨Z, hZ⟩ : ∃ Z, Z = (u8s (List.replicate 16 0)).toArray := ⟨_, rfl⟩
  rw [← hZ] at hz
  obtain ⟨C, hC⟩ : ∃ C, C = (u8s (nts s)).toArray := ⟨_, rfl⟩
  rw [← hC]
  have HZ := Hid.mk' hZ
  have HC := Hid.mk' hC
  clear hZ hC
  obtain ⟨q, hq⟩ : ∃ q : Nat → Nat, q = (fun j => j) := ⟨_, rfl⟩
  obtain ⟨v, hv⟩ : ∃ v : Nat → B8, v = fun j => at8 s (fwdI j) := ⟨_, rfl⟩
  have HQ := Hid.mk' hq
  have HV := Hid.mk' hv
  clear hq hv
  go_enter Try.func43, Try.ntmps43
  go_wp2
  obtain ⟨g, hg⟩ : ∃ g, g = w.heap.size := ⟨_, rfl⟩
  have hI : TurnI w g s (fill q v (4 * 0)) (((w.alloc (.cells C 82)).alloc (.cells Z 82)).alloc (.cells Z 82)) := by
    rw [HC.out, HZ.out, fill_zero]
    have al : ∀ (x : World) (o : Obj), But (fun _ => False) x (x.alloc o) := fun x o => (But.refl _ x).alloc o
    exact ⟨((Blk.new hg.symm).but (al _ _) (fun h => h)).but (al _ _) (fun h => h), (Blk.new (by simp [hg])).but (al _ _) (fun h => h), by rw [nts_rep]; exact Blk.new (by simp [hg]), (((But.refl _ w).alloc _).alloc _).alloc _⟩
  rw [← hg, show g + 1 + 1 = g + 2 from rfl]
  generalize (((w.alloc (.cells C 82)).alloc (.cells Z 82)).alloc (.cells Z 82)) = W0 at *
  have HI := Hid.mk' hI
  have HG := Hid.mk' hg
  clear hI hg hz HZ HC
  go_loopw [6] (fun i wr => ∃ c : Nat, c ≤ 4 ∧ i = .int .i64 c ∧ TurnI w g s (fill q v (4 * c)) wr) (fun i _ => 4 - (intOf i).toNat)
  case atStart => exact ⟨0, by decide, rfl, HI.out⟩
  case round =>
    obtain ⟨c, hc, rfl, hI⟩ := hrel
    by_cases hlt : c < 4
    · have HI2 := Hid.mk' hI
      clear hI HI
      have hci : (c : Int) < 4 := by omega
      obtain ⟨wo, hwo⟩ : ∃ wo, wo = wr := ⟨_, rfl⟩
      subst hwo
      go_wp2
      go_loopw [9] (fun i wr => ∃ r : Nat, r ≤ 4 ∧ i = .int .i64 r ∧ TurnI w g s (fill q v (4 * c + r)) wr) (fun i _ => 4 - (intOf i).toNat)
      case atStart => exact ⟨0, by decide, rfl, HI2.out⟩
      case round =>
        obtain ⟨r, hr, rfl, hI⟩ := hrel
        by_cases hlt2 : r < 4
        · have HI := Hid.mk' hI
          clear hI HI2
          have hri : (r : Int) < 4 := by omega
          obtain ⟨m, hm⟩ : ∃ m, m = 4 * c + r := ⟨_, rfl⟩
          obtain ⟨e, he⟩ : ∃ e, e = c + r := ⟨_, rfl⟩
          obtain ⟨d, hd⟩ : ∃ d, d = e % 4 := ⟨_, rfl⟩
          have w1 : IntKind.i64.wrap ((c : Int) + (r : Int)) = (e : Int) := by rw [wrapI _ (by omega) (by omega)]; omega
          have w2 : Int.tmod (e : Int) 4 = (d : Int) := by rw [Int.tmod_eq_emod_of_nonneg (by omega)]; omega
          have b1 : (d : Int) < 4 := by omega
          have hm16 : m < 16 := by omega
          have HF : Hid (fwdI m = d * 4 + r) := by show _ = _; unfold fwdI; omega
          have HME : Hid (4 * c + r = m) := hm.symm
          rw [HME.out] at HI
          have c1 := blk_nts HI.out.src (d * 4 + r) (by rw [hs]; omega)
          have hfr := HI.out.dst.free (c * 4 + r)
          have c2 := blk_nts HI.out.dst (c * 4 + r) (by rw [fill_len]; omega)
          generalize at8 (fill q v m) (c * 4 + r) = Y at c2
          obtain ⟨X, hX⟩ : ∃ X, X = at8 s (d * 4 + r) := ⟨_, rfl⟩
          rw [← hX] at c1
          have HX := Hid.mk' hX
          clear hX hm he hd
          go_wp2_with fail
          refine region_ends (l := [_, _, _, _, _, _, _, _, _, _, _, _]) (o := _) (by kernel_rfl) (by kernel_rfl) (by kernel_rfl) rfl (by kernel_rfl) (by kernel_rfl) ?_
          repeat (quiet_step (fail))
          refine wpQuiet_nil ?_
          intro _ hw'
          obtain ⟨nq, hw''⟩ := hw'
          subst hw''
          go_wp2
          refine ⟨⟨r + 1, by omega, by go_num, ?_⟩, by simp [intOf]; omega⟩
          rw [← Nat.add_assoc, HME.out]
          have h := HI.out
          have hn : But (fun _ => False) wr (wr.drewN nq) := (But.refl _ wr).drewN
          have hsn : But (· = g + 2) wr ((wr.drewN nq).setCell ⟨g + 2, c * 4 + r, none⟩ (.int .u8 (b8 X : Nat))) := ((But.refl (· = g + 2) wr).drewN (n := nq)).setCell (p := ⟨g + 2, c * 4 + r, none⟩) (fun _ => rfl) _
          refine ⟨h.src.but hsn (show ¬ (g = g + 2) by omega), h.res.but hsn (show ¬ (g + 1 = g + 2) by omega), ?_, h.but.then hsn (fun i hi e => by have := HG.out; omega)⟩
          have hX : X = v (c * 4 + r) := by
            rw [HX.out, HV.out]
            show at8 s _ = at8 s _
            congr 1
            rw [show c * 4 + r = m by have := HME.out; omega]; exact HF.out.symm
          rw [← fill_set v m (c * 4 + r) (by omega) (by rw [HQ.out]; have := HME.out; show c * 4 + r = m; omega) (fun j _ hj => by rw [HQ.out] at hj; have := HME.out; have hj2 : j = m := hj; omega), ← hX]
          exact blk_nts_set (h.dst.but hn (fun h => h)) _ _
        · have hr4 : r = 4 := by omega
          subst hr4
          have HI4 := Hid.mk' hI
          clear hI HI2
          go_wp2
          refine ⟨⟨c + 1, by omega, by go_num, ?_⟩, by simp [intOf]; omega⟩
          rw [Nat.mul_add]
          exact HI4.out
    · have hc4 : c = 4 := by omega
      subst hc4
      rw [show 4 * 4 = 16 from rfl, fill_all (by rw [HQ.out]; exact fun j h => h)] at hI
      have HI2 := Hid.mk' hI
      clear hI HI
      obtain ⟨M, hM⟩ : ∃ M, M = mk16 v := ⟨_, rfl⟩
      have HML : Hid ((nts M).length = 16) := by show _ = _; rw [hM, nts_len, mk16_len]
      rw [← hM] at HI2
      have HM := Hid.mk' hM
      clear hM
      go_wp2_with (first
        | (refine wpList_load_u8s Try.underlying82 i57 rfl _ rfl (g + 2) (nts M) HML.out rfl HI2.out.dst ?_)
        | (refine wpList_store_u8s i57 rfl _ _ rfl (g + 1) (nts M) HML.out rfl (by exact rfl) _ (by simp [u8s]) HI2.out.res ?_; intro w2 hb2 hbut2))
      refine bodyPost_ret (results_cell_row rfl _ _ (g + 1) _ _ _ _ rfl hb2 Try.underlying82 rfl (by rw [i57]; simp [u8s, HML.out])) rfl ⟨by rw [HM.out, HV.out]; rfl, ?_⟩
      exact HI2.out.but.then hbut2 (fun i hi e => by have := HG.out; omega)
end Go.Proofs.Ythmjdebnjcopnaa
/- A state's columns put one by one; the program's stateOf and block. -/
namespace Go.Proofs.Ythmjdebnjcopnaa
open Go.RowKit

def setCol (s : List B8) (k : Nat) (c : List B8) : List B8 := s.take (4 * k) ++ c ++ s.drop (4 * k + 4)
theorem setCol_len {s : List B8} {k : Nat} {c : List B8} (hs : s.length = 16) (hc : c.length = 4) (hk : k < 4) : (setCol s k c).length = 16 := by
  unfold setCol; simp [hs, hc]; omega
theorem setCol_at {s : List B8} {k : Nat} {c : List B8} (hs : s.length = 16) (hc : c.length = 4) (hk : k < 4) (i : Nat) (_hi : i < 16) : at8 (setCol s k c) i = if i / 4 = k then at8 c (i % 4) else at8 s i := by
  have h1 : (s.take (4 * k)).length = 4 * k := by rw [List.length_take]; omega
  unfold setCol at8 List.getD
  by_cases h : i / 4 = k
  · rw [if_pos h, List.getElem?_append_left (by rw [List.length_append, h1, hc]; omega), List.getElem?_append_right (by omega), h1, show i - 4 * k = i % 4 by omega]
  · rw [if_neg h]
    by_cases h2 : i < 4 * k
    · rw [List.append_assoc, List.getElem?_append_left (by omega), List.getElem?_take, if_pos h2]
    · rw [List.getElem?_append_right (by rw [List.length_append, h1, hc]; omega), List.length_append, h1, hc, List.getElem?_drop, show 4 * k + 4 + (i - (4 * k + 4)) = i by omega]
/-- The first k columns as F tells them. -/
def colsTo (F : Nat → List B8) (s : List B8) (k : Nat) : List B8 := mk16 fun i => if i / 4 < k then at8 (F (i / 4)) (i % 4) else at8 s i
def cols (F : Nat → List B8) : List B8 := mk16 fun i => at8 (F (i / 4)) (i % 4)
theorem colsTo_len (F : Nat → List B8) (s : List B8) (k : Nat) : (colsTo F s k).length = 16 := mk16_len _
theorem cols_len (F : Nat → List B8) : (cols F).length = 16 := mk16_len _
theorem colsTo_zero (F : Nat → List B8) {s : List B8} (hs : s.length = 16) : colsTo F s 0 = s := by
  refine at8_ext (colsTo_len _ _ _) hs (fun i hi => ?_)
  unfold colsTo
  rw [mk16_at _ i hi, if_neg (Nat.not_lt_zero _)]
theorem colsTo_all (F : Nat → List B8) (s : List B8) : colsTo F s 4 = cols F := by
  refine at8_ext (colsTo_len _ _ _) (cols_len _) (fun i hi => ?_)
  unfold colsTo cols
  rw [mk16_at _ i hi, mk16_at _ i hi, if_pos (by omega)]
theorem colsTo_set {F : Nat → List B8} (s : List B8) (k : Nat) (hk : k < 4) (hF : (F k).length = 4) : setCol (colsTo F s k) k (F k) = colsTo F s (k + 1) := by
  refine at8_ext (setCol_len (colsTo_len _ _ _) hF hk) (colsTo_len _ _ _) (fun i hi => ?_)
  rw [setCol_at (colsTo_len _ _ _) hF hk i hi]
  unfold colsTo
  rw [mk16_at _ i hi, mk16_at _ i hi]
  by_cases h : i / 4 = k
  · rw [if_pos h, if_pos (by omega), h]
  · rw [if_neg h]
    by_cases h2 : i / 4 < k
    · rw [if_pos h2, if_pos (by omega)]
    · rw [if_neg h2, if_neg (by omega)]
theorem colsTo_word (F : Nat → List B8) (s : List B8) (k : Nat) (hk : k < 4) : wordOf (colsTo F s k) k = wordOf s k := by
  have e : ∀ r, r < 4 → at8 (colsTo F s k) (4 * k + r) = at8 s (4 * k + r) := by
    intro r hr
    unfold colsTo
    rw [mk16_at _ _ (by omega), if_neg (by omega)]
  unfold wordOf
  rw [e 1 (by decide), e 2 (by decide), e 3 (by decide), show at8 (colsTo F s k) (4 * k) = at8 s (4 * k) from e 0 (by decide)]
theorem cols_word (F : Nat → List B8) (k : Nat) (hk : k < 4) (hF : (F k).length = 4) : wordOf (cols F) k = F k := by
  have e : ∀ r, r < 4 → at8 (cols F) (4 * k + r) = at8 (F k) r := by
    intro r hr
    unfold cols
    rw [mk16_at _ _ (by omega), show (4 * k + r) / 4 = k by omega, show (4 * k + r) % 4 = r by omega]
  unfold wordOf
  rw [e 1 (by decide), e 2 (by decide), e 3 (by decide), show at8 (cols F) (4 * k) = at8 (F k) 0 from e 0 (by decide)]
  exact four_eta hF
theorem cols_own {s : List B8} (hs : s.length = 16) : cols (wordOf s) = s := by
  refine at8_ext (cols_len _) hs (fun i hi => ?_)
  unfold cols
  rw [mk16_at _ i hi]
  obtain ⟨q, r, hr, e⟩ : ∃ q r, r < 4 ∧ i = 4 * q + r := ⟨i / 4, i % 4, by omega, by omega⟩
  rw [show i / 4 = q by omega, show i % 4 = r by omega, e]
  match r, hr with
  | 0, _ => rfl
  | 1, _ => rfl
  | 2, _ => rfl
  | 3, _ => rfl
theorem word_len (s : List B8) (k : Nat) : (wordOf s k).length = 4 := rfl
theorem u8s_app (a b : List Nat) : u8s (a ++ b) = u8s a ++ u8s b := by simp [u8s]
theorem nts_app (a b : List B8) : nts (a ++ b) = nts a ++ nts b := by simp [nts]
theorem split_col (s : List B8) (k : Nat) : s = s.take (4 * k) ++ (s.drop (4 * k)).take 4 ++ s.drop (4 * k + 4) := by
  rw [List.append_assoc, ← List.drop_drop, List.take_append_drop, List.take_append_drop]
/-- A column into a state. -/
theorem wpList_store_col {w : World} {ops : Array Oper} {rest : List Oper} {o : Oper} {a : Act} {Q : Exit → Act → World → Prop} (hgd : o.guard = none) (x y : Operand) (ho : o.op = .store 80 x y)
    (g off k : Nat) (T : TypeId) (s c : List B8) (hs : s.length = 16) (hc : c.length = 4) (hk : k < 4) (hoff : off = 4 * k) (hx : a.eval x = .pointer (some ⟨g, off, none⟩)) (hy : a.eval y = .agg (u8s (nts c)).toArray) (hb : Blk w g T (u8s (nts s)))
    (h : ∀ w', Blk w' g T (u8s (nts (setCol s k c))) → But (· = g) w w' → wpList Try.prog ops Q rest (a.put o.dst undef) w') : wpList Try.prog ops Q (o :: rest) a w := by
  have hsp := split_col s k
  rw [hsp, nts_app, nts_app, u8s_app, u8s_app] at hb
  refine wpList_store_at hgd 80 x y ho g off (u8s (nts c)) hx hy T _ _ _ hb (by unfold u8s; rw [List.length_map, nts_len, List.length_take]; omega) (by unfold u8s; rw [List.length_map, nts_len, List.length_map, nts_len, List.length_take, List.length_drop]; omega) (by rw [i55, u4l c hc]) (u8s_one _) ?_
  intro w' hb' hb2
  refine h w' ?_ hb2
  unfold setCol
  rw [nts_app, nts_app, u8s_app, u8s_app]
  exact hb'
theorem col_cells {w : World} {g : Nat} {T : TypeId} {s : List B8} (hb : Blk w g T (u8s (nts s))) (off k : Nat) (hs : 4 * k + 4 ≤ s.length) (hoff : off = 4 * k) :
    ∀ j v, (u8s (nts (wordOf s k)))[j]? = some v → w.cell? ((⟨g, off, none⟩ : Addr).add j) = some v := by
  intro j v hv
  have hj : j < 4 := by
    have := (List.getElem?_eq_some_iff.1 hv).1
    rwa [u4l _ (word_len s k)] at this
  have e : (⟨g, off, none⟩ : Addr).add j = ⟨g, 4 * k + j, none⟩ := by simp [Addr.add, hoff]
  rw [e, blk_nts hb (4 * k + j) (by omega), ← hv]
  match j, hj with
  | 0, _ => rfl
  | 1, _ => rfl
  | 2, _ => rfl
  | 3, _ => rfl
/-- A column out of a row of bytes. -/
theorem wpList_load_col {w : World} {ops : Array Oper} {rest : List Oper} {o : Oper} {a : Act} {Q : Exit → Act → World → Prop} (hgd : o.guard = none) (x : Operand) (ho : o.op = .load 80 x)
    (g off k : Nat) (T : TypeId) (s : List B8) (hs : 4 * k + 4 ≤ s.length) (hoff : off = 4 * k) (hx : a.eval x = .pointer (some ⟨g, off, none⟩)) (hb : Blk w g T (u8s (nts s)))
    (h : wpList Try.prog ops Q rest (a.put o.dst (.agg (u8s (nts (wordOf s k))).toArray)) w) : wpList Try.prog ops Q (o :: rest) a w :=
  wpList_load_cells hgd _ x ho ⟨g, off, none⟩ hx (u8s (nts (wordOf s k))) _ (col_cells hb off k hs hoff) Try.underlying80 rfl (by rw [i55, u4l _ (word_len s k)]) h
set_option maxRecDepth 100000 in
theorem slice_col (w : World) (g k : Nat) (hk : k < 4) : Sem.run Try.prog (Instr.sliceAt 44 (.pointer (some ⟨g, 0, none⟩)) (some (.int .i64 (4 * (k : Int)))) (some (.int .i64 (4 * ((k : Int) + 1)))) none) w = .ok (.slice (some ⟨g, 4 * k, none⟩) 4 (16 - 4 * k)) w := by
  have h : k = 0 ∨ k = 1 ∨ k = 2 ∨ k = 3 := by omega
  rcases h with h | h | h | h <;> subst h
  · exact rfl
  · exact rfl
  · exact rfl
  · exact rfl
set_option maxRecDepth 100000 in
theorem arr_col (w : World) (a : Addr) (c : Nat) : Sem.run Try.prog (Instr.arrayAt 80 (.slice (some a) 4 c)) w = .ok (.pointer (some a)) w := by kernel_rfl
set_option maxRecDepth 100000 in
theorem zero16 (w : World) : (zeroValue 44).run Try.prog w = .ok (.agg (u8s (List.replicate 16 0)).toArray) w := by kernel_rfl
set_option maxRecDepth 100000 in
theorem i23 : (Try.prog.info? 44).map (·.size) = some 16 := by kernel_rfl
/-- What memory is amid stateOf and block. -/
structure PutI (w : World) (g : Nat) (TS TD : TypeId) (s t : List B8) (wr : World) : Prop where
  src : Blk wr g TS (u8s (nts s))
  res : Blk wr (g + 1) TD (u8s (List.replicate 16 0))
  dst : Blk wr (g + 2) TD (u8s (nts t))
  but : But (fun _ => False) w wr
theorem colsTo_zero' {s : List B8} : colsTo (wordOf s) (List.replicate 16 0) 0 = List.replicate 16 0 := colsTo_zero _ (by simp)
set_option maxRecDepth 100000 in
set_option maxHeartbeats 1000000 in
theorem stateOf_any {w : World} {s : List B8} (hs : s.length = 16) :
    Calls Try.prog 42 #[.agg (u8s (nts s)).toArray] w fun e w' => e = .returned (.agg (u8s (nts s)).toArray) ∧ But (fun _ => False) w w' := by
  have hz := zeroS
  obtain ⟨Z, hZ⟩ : ∃ Z, Z = (u8s (List.replicate 16 0)).toArray := ⟨_, rfl⟩
  rw [← hZ] at hz
  obtain ⟨C, hC⟩ : ∃ C, C = (u8s (nts s)).toArray := ⟨_, rfl⟩
  rw [← hC]
  have HZ := Hid.mk' hZ
  have HC := Hid.mk' hC
  clear hZ hC
  go_enter Try.func42, Try.ntmps42
  go_wp2
  obtain ⟨g, hg⟩ : ∃ g, g = w.heap.size := ⟨_, rfl⟩
  have hI : PutI w g 44 82 s (colsTo (wordOf s) (List.replicate 16 0) 0) (((w.alloc (.cells C 44)).alloc (.cells Z 82)).alloc (.cells Z 82)) := by
    rw [HC.out, HZ.out, colsTo_zero']
    have al : ∀ (x : World) (o : Obj), But (fun _ => False) x (x.alloc o) := fun x o => (But.refl _ x).alloc o
    exact ⟨((Blk.new hg.symm).but (al _ _) (fun h => h)).but (al _ _) (fun h => h), (Blk.new (by simp [hg])).but (al _ _) (fun h => h), by rw [nts_rep]; exact Blk.new (by simp [hg]), (((But.refl _ w).alloc _).alloc _).alloc _⟩
  rw [← hg, show g + 1 + 1 = g + 2 from rfl]
  generalize (((w.alloc (.cells C 44)).alloc (.cells Z 82)).alloc (.cells Z 82)) = W0 at *
  have HI := Hid.mk' hI
  have HG := Hid.mk' hg
  clear hI hg hz HZ
  go_loopw [5] (fun i wr => ∃ k : Nat, k ≤ 4 ∧ i = .int .i64 k ∧ PutI w g 44 82 s (colsTo (wordOf s) (List.replicate 16 0) k) wr) (fun i _ => 4 - (intOf i).toNat)
  case atStart => exact ⟨0, by decide, rfl, HI.out⟩
  case round =>
    obtain ⟨k, hk, rfl, hI⟩ := hrel
    obtain ⟨M, hM⟩ : ∃ M, M = colsTo (wordOf s) (List.replicate 16 0) k := ⟨_, rfl⟩
    have HML : Hid (M.length = 16) := by show _ = _; rw [hM, colsTo_len]
    rw [← hM] at hI
    have HM := Hid.mk' hM
    have HI2 := Hid.mk' hI
    clear hI HI hM
    by_cases hlt : k < 4
    · have hki : (k : Int) < 4 := by omega
      have hsl := slice_col wr g k hlt
      have hac := arr_col wr ⟨g, 4 * k, none⟩ (16 - 4 * k)
      go_wp2_with (first
        | (refine wpList_load_col rfl _ rfl g (4 * k) k 44 s (by omega) rfl (by rfl) HI2.out.src ?_)
        | (refine wpList_store_col rfl _ _ rfl (g + 2) (k * 4) k 82 M (wordOf s k) HML.out (word_len s k) hlt (by omega) (by rfl) (by rfl) HI2.out.dst ?_; intro w2 hb2 hbut2))
      refine ⟨⟨k + 1, by omega, by go_num, ?_⟩, by simp [intOf]; omega⟩
      have h := HI2.out
      refine ⟨h.src.but hbut2 (show ¬ (g = g + 2) by omega), h.res.but hbut2 (show ¬ (g + 1 = g + 2) by omega), ?_, h.but.then hbut2 (fun i hi e => by have := HG.out; omega)⟩
      rw [← colsTo_set _ k hlt (word_len s k), ← HM.out]
      exact hb2
    · have hk4 : k = 4 := by omega
      subst hk4
      have HMS : Hid (M = s) := by show _ = _; rw [HM.out, colsTo_all, cols_own hs]
      rw [HMS.out] at HI2
      have HNL : Hid ((nts s).length = 16) := by show _ = _; rw [nts_len]; exact hs
      clear HM HMS HML hs
      go_wp2_with (first
        | (refine wpList_load_u8s Try.underlying82 i57 rfl _ rfl (g + 2) (nts s) HNL.out rfl HI2.out.dst ?_)
        | (refine wpList_store_u8s i57 rfl _ _ rfl (g + 1) (nts s) HNL.out rfl (by exact rfl) _ (by simp [u8s]) HI2.out.res ?_; intro w2 hb2 hbut2))
      refine bodyPost_ret (results_cell_row rfl _ _ (g + 1) _ _ _ _ rfl hb2 Try.underlying82 rfl (by rw [i57]; simp [u8s, HNL.out])) rfl ⟨by rw [HC.out], ?_⟩
      exact HI2.out.but.then hbut2 (fun i hi e => by have := HG.out; omega)
set_option maxRecDepth 100000 in
theorem copy_col {w : World} {g gc k : Nat} {T TC : TypeId} {s c : List B8} (ty : TypeId) (hb : Blk w g T (u8s (nts s))) (hs : s.length = 16) (hk : k < 4) (hcb : Blk w gc TC (u8s (nts c))) (hc : c.length = 4) :
    ∃ w', (Builtin.copy_ #[22, 22] ty #[.slice (some ⟨g, 4 * k, none⟩) (16 - 4 * k) (16 - 4 * k), .slice (some ⟨gc, 0, none⟩) 4 4]).run Try.prog w = .ok (.int .i64 4) w' ∧ Blk w' g T (u8s (nts (setCol s k c))) ∧ But (· = g) w w' := by
  have hsz : (Try.prog.info? 5).map (·.size) = some 1 := by kernel_rfl
  have hl := u4l c hc
  have hsp := split_col s k
  have hb0 := hb
  rw [hsp, nts_app, nts_app, u8s_app, u8s_app] at hb
  have hA : (u8s (nts (s.take (4 * k)))).length = 4 * k := by unfold u8s; rw [List.length_map, nts_len, List.length_take]; omega
  have hO : (u8s (nts ((s.drop (4 * k)).take 4))).length = 4 := by unfold u8s; rw [List.length_map, nts_len, List.length_take, List.length_drop]; omega
  have hr := run_copy_row (P := Try.prog) w 22 22 ty 5 g (4 * k) (16 - 4 * k) (16 - 4 * k) ⟨gc, 0, none⟩ 4 4 _ T (u8s (nts c)) Try.underlying22 hsz hb (by rw [hl]; simp [Nat.min_def]; omega)
    (by
      intro j v hv
      have e : (⟨gc, 0, none⟩ : Addr).add j = ⟨gc, j, none⟩ := by simp [Addr.add]; exact fun h => h.symm
      rw [e, hcb.cell]; exact hv) (by rw [hl]; simp [hA, hO]) (u8s_one _)
  rw [hl] at hr
  refine ⟨_, hr, ?_, (But.refl (· = g) w).setRow (fun _ => rfl) _⟩
  have e : ∀ A O B : List Value, A.length = 4 * k → O.length = 4 → (A ++ O ++ B).toArray.toList.take (4 * k) ++ u8s (nts c) ++ (A ++ O ++ B).toArray.toList.drop (4 * k + 4) = A ++ u8s (nts c) ++ B := by
    intro A O B hA hO
    rw [← hA, ← hO]
    simp [List.drop_append]
  rw [e _ _ _ hA hO]
  unfold setCol
  rw [nts_app, nts_app, u8s_app, u8s_app]
  exact hb.row _
set_option maxRecDepth 100000 in
theorem index_col (w : World) (s : List B8) (hs : s.length = 16) (k : Nat) (hk : k < 4) : Sem.run Try.prog (Instr.index 82 (.agg (u8s (nts s)).toArray) (.int .i64 (k : Int))) w = .ok (.agg (u8s (nts (wordOf s k))).toArray) w := by
  have h : k = 0 ∨ k = 1 ∨ k = 2 ∨ k = 3 := by omega
  match s, hs with
  | [a0, a1, a2, a3, a4, a5, a6, a7, a8, a9, a10, a11, a12, a13, a14, a15], _ =>
    rcases h with h | h | h | h <;> subst h
    · exact rfl
    · exact rfl
    · exact rfl
    · exact rfl
set_option maxRecDepth 100000 in
theorem slice_from (w : World) (g k : Nat) (hk : k < 4) : Sem.run Try.prog (Instr.sliceAt 44 (.pointer (some ⟨g, 0, none⟩)) (some (.int .i64 (4 * (k : Int)))) none none) w = .ok (.slice (some ⟨g, 4 * k, none⟩) (16 - 4 * k) (16 - 4 * k)) w := by
  have h : k = 0 ∨ k = 1 ∨ k = 2 ∨ k = 3 := by omega
  rcases h with h | h | h | h <;> subst h
  · exact rfl
  · exact rfl
  · exact rfl
  · exact rfl
set_option maxRecDepth 100000 in
set_option maxHeartbeats 1000000 in
theorem blockOf_any {w : World} {s : List B8} (hs : s.length = 16) :
    Calls Try.prog 46 #[.agg (u8s (nts s)).toArray] w fun e w' => e = .returned (.agg (u8s (nts s)).toArray) ∧ But (fun _ => False) w w' := by
  have hz := zero16
  obtain ⟨Z, hZ⟩ : ∃ Z, Z = (u8s (List.replicate 16 0)).toArray := ⟨_, rfl⟩
  rw [← hZ] at hz
  obtain ⟨C, hC⟩ : ∃ C, C = (u8s (nts s)).toArray := ⟨_, rfl⟩
  rw [← hC]
  have HZ := Hid.mk' hZ
  have HC := Hid.mk' hC
  clear hZ hC
  obtain ⟨g, hg⟩ : ∃ g, g = w.heap.size := ⟨_, rfl⟩
  obtain ⟨W0, hW0⟩ : ∃ W0, W0 = (((w.alloc (.cells C 82)).alloc (.cells Z 44)).alloc (.cells Z 44)) := ⟨_, rfl⟩
  have hI : PutI w g 82 44 s (colsTo (wordOf s) (List.replicate 16 0) 0) W0 := by
    rw [hW0, HC.out, HZ.out, colsTo_zero']
    have al : ∀ (x : World) (o : Obj), But (fun _ => False) x (x.alloc o) := fun x o => (But.refl _ x).alloc o
    exact ⟨((Blk.new hg.symm).but (al _ _) (fun h => h)).but (al _ _) (fun h => h), (Blk.new (by simp [hg])).but (al _ _) (fun h => h), by rw [nts_rep]; exact Blk.new (by simp [hg]), (((But.refl _ w).alloc _).alloc _).alloc _⟩
  have HI := Hid.mk' hI
  have HG := Hid.mk' hg
  have HW0 := Hid.mk' hW0
  have HNL : Hid ((nts s).length = 16) := by show _ = _; rw [nts_len]; exact hs
  have HS0 : Hid (Blk (((w.alloc (.cells C 82)).alloc (.cells Z 44)).alloc (.cells Z 44)) w.heap.size 82 (u8s (nts s))) := by show Blk _ _ _ _; rw [← hW0, ← hg]; exact hI.src
  clear hI hg hW0 HZ
  go_enter Try.func46, Try.ntmps46
  go_wp2_with (refine wpList_load_u8s Try.underlying82 i57 rfl _ rfl w.heap.size (nts s) HNL.out rfl HS0.out ?_)
  rw [← HW0.out, ← HG.out, show g + 1 + 1 = g + 2 from rfl]
  clear HW0 HS0 hz
  go_loopw [7] (fun i wr => ∃ k : Nat, k ≤ 4 ∧ i = .int .i64 k ∧ PutI w g 82 44 s (colsTo (wordOf s) (List.replicate 16 0) k) wr) (fun i _ => 4 - (intOf i).toNat)
  case atStart => exact ⟨0, by decide, rfl, HI.out⟩
  case round =>
    obtain ⟨k, hk, rfl, hI⟩ := hrel
    obtain ⟨M, hM⟩ : ∃ M, M = colsTo (wordOf s) (List.replicate 16 0) k := ⟨_, rfl⟩
    have HML : Hid (M.length = 16) := by show _ = _; rw [hM, colsTo_len]
    rw [← hM] at hI
    have HM := Hid.mk' hM
    have HI2 := Hid.mk' hI
    clear hI HI hM
    by_cases hlt : k < 4
    · have hki : (k : Int) < 4 := by omega
      have hix := index_col wr s hs k hlt
      obtain ⟨X, hX⟩ : ∃ X, X = wordOf s k := ⟨_, rfl⟩
      rw [← hX] at hix
      have HX := Hid.mk' hX
      clear hX
      have hz4 := zero4
      obtain ⟨Z4, hZ4⟩ : ∃ Z4, Z4 = (u8s (List.replicate 4 0)).toArray := ⟨_, rfl⟩
      rw [← hZ4] at hz4
      have HXL : Hid ((nts X).length = 4) := by show _ = _; rw [nts_len, HX.out]; rfl
      have HB0 : Hid (Blk (wr.alloc (.cells Z4 80)) wr.heap.size 80 (u8s (List.replicate 4 0))) := by show Blk _ _ _ _; rw [hZ4]; exact Blk.new rfl
      clear hZ4
      obtain ⟨gc, hgc⟩ : ∃ gc, gc = wr.heap.size := ⟨_, rfl⟩
      have HGC := Hid.mk' hgc
      rw [← hgc] at HB0
      clear hgc
      go_upto_region 5 with (first
        | (refine wpList_store_u8s i55 rfl _ _ rfl gc (nts X) HXL.out (by rw [HGC.out]; rfl) (by exact rfl) _ (by simp [u8s]) HB0.out ?_; intro w2 hb2 hbut2)
        | fail)
      rw [← HGC.out]
      have hlt3 : g + 2 < gc := by rw [HGC.out]; exact HI2.out.dst.lt
      have hba : But (· = gc) wr w2 := ((But.refl (· = gc) wr).alloc _).trans hbut2
      have HI3 : Hid (PutI w g 82 44 s M w2) := by
        have h := HI2.out
        exact ⟨h.src.but hba (show ¬ (g = gc) by omega), h.res.but hba (show ¬ (g + 1 = gc) by omega), h.dst.but hba (show ¬ (g + 2 = gc) by omega), h.but.then hba (fun i hi e => by have := h.but.size; have := HGC.out; omega)⟩
      have HB2 := Hid.mk' hb2
      have hsl := fun w => slice_from w (g + 2) k hlt
      have w1 : IntKind.i64.wrap (4 * (k : Int)) = 4 * (k : Int) := wrapI _ (by omega) (by omega)
      clear hb2 hbut2 hba HB0 HI2 hz4 hix
      refine region_ends (l := [_, _, _, _]) (o := _) (by kernel_rfl) (by kernel_rfl) (by kernel_rfl) rfl (by kernel_rfl) (by kernel_rfl) ?_
      repeat (quiet_step (fail))
      refine wpQuiet_nil ?_
      intro _ hw'
      obtain ⟨nq, hw''⟩ := hw'
      subst hw''
      have hn : But (fun _ => False) w2 (w2.drewN nq) := (But.refl _ w2).drewN
      obtain ⟨w3, hcopy, hb3, hbut3⟩ := copy_col 3 (HI3.out.dst.but hn (fun h => h)) HML.out hlt (HB2.out.but hn (fun h => h)) (by rw [HX.out]; rfl)
      go_wp2
      refine ⟨⟨k + 1, by omega, by go_num, ?_⟩, by simp [intOf]; omega⟩
      have h := HI3.out
      have hb4 : But (· = g + 2) w2 w3 := (hn.mono (fun _ _ h => h.elim)).trans hbut3
      refine ⟨h.src.but hb4 (show ¬ (g = g + 2) by omega), h.res.but hb4 (show ¬ (g + 1 = g + 2) by omega), ?_, h.but.then hb4 (fun i hi e => by have := HG.out; omega)⟩
      rw [← colsTo_set _ k hlt (word_len s k), ← HM.out, ← HX.out]
      exact hb3
    · have hk4 : k = 4 := by omega
      subst hk4
      have HMS : Hid (M = s) := by show _ = _; rw [HM.out, colsTo_all, cols_own hs]
      rw [HMS.out] at HI2
      clear HM HMS HML hs
      go_wp2_with (first
        | (refine wpList_load_u8s Try.underlying44 i23 rfl _ rfl (g + 2) (nts s) HNL.out rfl HI2.out.dst ?_)
        | (refine wpList_store_u8s i23 rfl _ _ rfl (g + 1) (nts s) HNL.out rfl (by exact rfl) _ (by simp [u8s]) HI2.out.res ?_; intro w2 hb2 hbut2))
      refine bodyPost_ret (results_cell_row rfl _ _ (g + 1) _ _ _ _ rfl hb2 Try.underlying44 rfl (by rw [i23]; simp [u8s, HNL.out])) rfl ⟨by rw [HC.out], ?_⟩
      exact HI2.out.but.then hbut2 (fun i hi e => by have := HG.out; omega)
end Go.Proofs.Ythmjdebnjcopnaa
/- A cipher in memory; the program's made, rounds, keyed. -/
namespace Go.Proofs.Ythmjdebnjcopnaa
open Go.RowKit

/-- A word as a value. -/
def wv (x : List B8) : Value := .int .u32 (num4 (at8 x 0) (at8 x 1) (at8 x 2) (at8 x 3) : Nat)
/-- A cipher of these words. -/
structure Cph (w : World) (gc gb gw : Nat) (W : List (List B8)) : Prop where
  blk : Blk w gc 69 [.pointer (some ⟨gb, 0, none⟩), .slice (some ⟨gw, 0, none⟩) W.length W.length]
  bxs : Bxs w gb
  wds : ∃ T, Blk w gw T (W.map wv)
  len : W.length = 44 ∨ W.length = 60
theorem Cph.but {R : Nat → Prop} {w w' : World} {gc gb gw : Nat} {W : List (List B8)} (h : Cph w gc gb gw W) (k : But R w w') (h1 : ¬ R gc) (h2 : ¬ R gb) (h3 : ¬ R gw) : Cph w' gc gb gw W :=
  ⟨h.blk.but k h1, h.bxs.but k h2, h.wds.elim fun T hT => ⟨T, hT.but k h3⟩, h.len⟩
theorem Cph.grow {w w' : World} {gc gb gw : Nat} {W : List (List B8)} (h : Cph w gc gb gw W) (k : But (fun _ => False) w w') : Cph w' gc gb gw W := h.but k (fun h => h) (fun h => h) (fun h => h)
theorem Cph.word {w : World} {gc gb gw : Nat} {W : List (List B8)} (h : Cph w gc gb gw W) (i : Nat) (hi : i < W.length) : w.cell? ⟨gw, i, none⟩ = some (wv (W.getD i [])) := by
  obtain ⟨T, hT⟩ := h.wds
  rw [hT.cell, List.getElem?_map]
  simp [List.getD, hi]
theorem made_any {w : World} {gc gb gw : Nat} {W : List (List B8)} (h : Cph w gc gb gw W) :
    Calls Try.prog 39 #[.pointer (some ⟨gc, 0, none⟩)] w fun e w' => e = .returned (.bool true) ∧ w' = w := by
  have c1 : w.cell? ⟨gc, 1, none⟩ = some (.slice (some ⟨gw, 0, none⟩) W.length W.length) := by rw [h.blk.cell]; rfl
  have hl : 0 < (W.length : Int) := by have := h.len; omega
  generalize W.length = n at *
  clear h
  go_enter Try.func39, Try.ntmps39
  go_wp2
  go_ret
  have h0 : 0 < n := by omega
  refine ⟨?_, rfl⟩
  show Ending.returned (.bool (decide (0 < n))) = _
  rw [decide_eq_true h0]
theorem made_nil (w : World) :
    Calls Try.prog 39 #[.pointer none] w fun e w' => e = .returned (.bool false) ∧ w' = w := by
  go_enter Try.func39, Try.ntmps39
  go_wp2
  go_ret
  exact ⟨rfl, rfl⟩
theorem rounds_any {w : World} {gc gb gw : Nat} {W : List (List B8)} (h : Cph w gc gb gw W) :
    Calls Try.prog 40 #[.pointer (some ⟨gc, 0, none⟩)] w fun e w' => e = .returned (.int .i64 ((W.length / 4 - 1 : Nat) : Int)) ∧ w' = w := by
  have c1 : w.cell? ⟨gc, 1, none⟩ = some (.slice (some ⟨gw, 0, none⟩) W.length W.length) := by rw [h.blk.cell]; rfl
  have hl := h.len
  generalize W.length = n at *
  clear h
  obtain ⟨L, hL⟩ : ∃ L, L = n / 4 - 1 := ⟨_, rfl⟩
  rw [← hL]
  have d1 : Int.tdiv (n : Int) 4 = ((L + 1 : Nat) : Int) := by rw [Int.tdiv_eq_ediv_of_nonneg (by omega)]; omega
  have d2 : (n : Int) / 4 = ((L + 1 : Nat) : Int) := by omega
  have hL2 : L ≤ 14 := by omega
  clear hL
  go_enter Try.func40, Try.ntmps40
  go_wp2
  go_ret
  refine ⟨?_, rfl⟩
  refine congrArg (fun x => Ending.returned (.int .i64 x)) ?_
  omega
theorem addK_cols (W : List (List B8)) (r : Nat) (s : List B8) : cols (fun k => xor4 (wordOf s k) (W.getD (4 * r + k) [])) = addK W r s := by
  refine at8_ext (cols_len _) (addK_len _ _ _) (fun i hi => ?_)
  unfold cols addK
  rw [mk16_at _ i hi, mk16_at _ i hi]
  obtain ⟨q, t, ht, e⟩ : ∃ q t, t < 4 ∧ i = 4 * q + t := ⟨i / 4, i % 4, by omega, by omega⟩
  rw [show i / 4 = q by omega, show i % 4 = t by omega, e]
  match t, ht with
  | 0, _ => rfl
  | 1, _ => rfl
  | 2, _ => rfl
  | 3, _ => rfl
/-- What memory is amid keyed. -/
structure KeyI (w : World) (g : Nat) (s : List B8) (wr : World) : Prop where
  src : Blk wr g 82 (u8s (nts s))
  res : Blk wr (g + 1) 82 (u8s (List.replicate 16 0))
  but : But (fun _ => False) w wr
set_option maxRecDepth 100000 in
set_option maxHeartbeats 1000000 in
theorem keyed_any {w : World} {gc gb gw : Nat} {W : List (List B8)} {s : List B8} {r : Nat} (hW : Cph w gc gb gw W) (hs : s.length = 16) (hr : 4 * r + 4 ≤ W.length) :
    Calls Try.prog 41 #[.pointer (some ⟨gc, 0, none⟩), .agg (u8s (nts s)).toArray, .int .i64 r] w fun e w' => e = .returned (.agg (u8s (nts (addK W r s))).toArray) ∧ But (fun _ => False) w w' := by
  have hz := zeroS
  obtain ⟨Z, hZ⟩ : ∃ Z, Z = (u8s (List.replicate 16 0)).toArray := ⟨_, rfl⟩
  rw [← hZ] at hz
  obtain ⟨C, hC⟩ : ∃ C, C = (u8s (nts s)).toArray := ⟨_, rfl⟩
  rw [← hC]
  have HZ := Hid.mk' hZ
  have HC := Hid.mk' hC
  have hn60 := hW.len
  have c1 : w.cell? ⟨gc, 1, none⟩ = some (.slice (some ⟨gw, 0, none⟩) W.length W.length) := by rw [hW.blk.cell]; rfl
  have HW := Hid.mk' hW
  have hgc := hW.blk.lt
  clear hZ hC hW
  obtain ⟨F, hF⟩ : ∃ F, F = fun k => xor4 (wordOf s k) (W.getD (4 * r + k) []) := ⟨_, rfl⟩
  have HF := Hid.mk' hF
  clear hF
  obtain ⟨n, hn⟩ : ∃ n, n = W.length := ⟨_, rfl⟩
  rw [← hn] at c1 hr hn60
  have HN := Hid.mk' hn
  clear hn
  have hr14 : r ≤ 14 := by omega
  have hn2 : n ≤ 60 := by omega
  have hr' : 4 * ((r : Int) + 1) ≤ (n : Int) := by omega
  clear hr hn60
  go_enter Try.func41, Try.ntmps41
  go_wp2
  rw [show 4 * (r + 1) - 4 * r = 4 by omega]
  obtain ⟨g, hg⟩ : ∃ g, g = w.heap.size := ⟨_, rfl⟩
  have hI : KeyI w g (colsTo F s 0) ((w.alloc (.cells C 82)).alloc (.cells Z 82)) := by
    rw [HC.out, HZ.out, colsTo_zero F hs]
    refine ⟨(Blk.new hg.symm).but ((But.refl (fun _ => False) _).alloc _) (fun h => h), Blk.new (by simp [hg]), ((But.refl _ w).alloc _).alloc _⟩
  rw [← hg]
  generalize ((w.alloc (.cells C 82)).alloc (.cells Z 82)) = W0 at *
  have HI := Hid.mk' hI
  have HG := Hid.mk' hg
  clear hI hg hz HZ HC
  rw [show (((4 : Nat) : Int)) = 4 from rfl]
  go_loopw [20] (fun i wr => ∃ k : Nat, k ≤ 4 ∧ i = .int .i64 k ∧ KeyI w g (colsTo F s k) wr) (fun i _ => 4 - (intOf i).toNat)
  case atStart => exact ⟨0, by decide, rfl, HI.out⟩
  case round =>
    obtain ⟨k, hk, rfl, hI⟩ := hrel
    obtain ⟨M, hM⟩ : ∃ M, M = colsTo F s k := ⟨_, rfl⟩
    have HML : Hid (M.length = 16) := by show _ = _; rw [hM, colsTo_len]
    rw [← hM] at hI
    have HM := Hid.mk' hM
    have HI2 := Hid.mk' hI
    clear hI HI hM
    by_cases hlt : k < 4
    · have hki : (k : Int) < 4 := by omega
      have c2 := (HW.out.grow HI2.out.but).word (4 * r + k) (by rw [← HN.out]; omega)
      obtain ⟨Y, hY⟩ : ∃ Y, Y = W.getD (4 * r + k) [] := ⟨_, rfl⟩
      rw [← hY] at c2
      have HY := Hid.mk' hY
      have HMW : Hid (wordOf M k = wordOf s k) := by show _ = _; rw [HM.out]; exact colsTo_word F s k hlt
      obtain ⟨x0, hx0⟩ : ∃ x, x = at8 s (4 * k) := ⟨_, rfl⟩
      obtain ⟨x1, hx1⟩ : ∃ x, x = at8 s (4 * k + 1) := ⟨_, rfl⟩
      obtain ⟨x2, hx2⟩ : ∃ x, x = at8 s (4 * k + 2) := ⟨_, rfl⟩
      obtain ⟨x3, hx3⟩ : ∃ x, x = at8 s (4 * k + 3) := ⟨_, rfl⟩
      have hX : wordOf s k = [x0, x1, x2, x3] := by unfold wordOf; rw [hx0, hx1, hx2, hx3]
      rw [hX] at HMW
      unfold wv at c2
      have hxo := xor4n x0 x1 x2 x3 (at8 Y 0) (at8 Y 1) (at8 Y 2) (at8 Y 3)
      have HFK : Hid (F k = [x0 ^^^ at8 Y 0, x1 ^^^ at8 Y 1, x2 ^^^ at8 Y 2, x3 ^^^ at8 Y 3]) := by
        show _ = _
        rw [HF.out]
        show xor4 (wordOf s k) (W.getD (4 * r + k) []) = _
        rw [hX, ← HY.out]; rfl
      have l1 := num4_lt x0 x1 x2 x3
      have l2 := num4_lt (at8 Y 0) (at8 Y 1) (at8 Y 2) (at8 Y 3)
      clear hx0 hx1 hx2 hx3 hX hY
      go_wp2_with (first
        | (refine wpList_load_col rfl _ rfl g (k * 4) k 82 M (by have := HML.out; omega) (by omega) (by rfl) HI2.out.src ?_; rw [HMW.out])
        | fail)
      refine Calls.mono (number_any x0 x1 x2 x3 wr) ?_
      rintro e w1 ⟨rfl, hb1⟩
      have HT1 := Hid.mk' hb1
      clear hb1
      go_wp2_with fail
      refine Calls.mono (columnOf_any _ _ _ _ w1) ?_
      rintro e w2 ⟨rfl, hb2⟩
      have HT2 := Hid.mk' (HT1.out.trans hb2)
      have HS2 := Hid.mk' (HI2.out.src.but HT2.out (fun h => h))
      clear hb2 HT1
      unfold colV
      rw [← HFK.out]
      have HFL : Hid ((F k).length = 4) := by show _ = _; rw [HFK.out]; rfl
      clear HFK hxo
      go_wp2_with (refine wpList_store_col rfl _ _ rfl g (k * 4) k 82 M (F k) HML.out HFL.out hlt (by omega) (by rfl) (by rfl) HS2.out ?_; intro w3 hb3 hbut3)
      refine ⟨⟨k + 1, by omega, by go_num, ?_⟩, by simp [intOf]; omega⟩
      have h := HI2.out
      refine ⟨?_, (h.res.but HT2.out (fun h => h)).but hbut3 (show ¬ (g + 1 = g) by omega), (h.but.trans HT2.out).then hbut3 (fun i hi e => by have := HG.out; omega)⟩
      rw [← colsTo_set _ k hlt HFL.out, ← HM.out]
      exact hb3
    · have hk4 : k = 4 := by omega
      subst hk4
      have HMS : Hid (M = addK W r s) := by show _ = _; rw [HM.out, colsTo_all, HF.out, addK_cols]
      have HNL : Hid ((nts M).length = 16) := by show _ = _; rw [nts_len]; exact HML.out
      go_wp2_with (first
        | (refine wpList_load_u8s Try.underlying82 i57 rfl _ rfl g (nts M) HNL.out rfl HI2.out.src ?_)
        | (refine wpList_store_u8s i57 rfl _ _ rfl (g + 1) (nts M) HNL.out rfl (by exact rfl) _ (by simp [u8s]) HI2.out.res ?_; intro w2 hb2 hbut2))
      refine bodyPost_ret (results_cell_row rfl _ _ (g + 1) _ _ _ _ rfl hb2 Try.underlying82 rfl (by rw [i57]; simp [u8s, HNL.out])) rfl ⟨by rw [HMS.out], ?_⟩
      exact HI2.out.but.then hbut2 (fun i hi e => by have := HG.out; omega)
end Go.Proofs.Ythmjdebnjcopnaa
/- Rounds over columns: what the program does with each column is the document's round. -/
namespace Go.Proofs.Ythmjdebnjcopnaa
open Go.RowKit

theorem cols_congr {F G : Nat → List B8} (h : ∀ k, k < 4 → F k = G k) : cols F = cols G := by
  refine at8_ext (cols_len _) (cols_len _) (fun i hi => ?_)
  unfold cols
  rw [mk16_at _ i hi, mk16_at _ i hi, h (i / 4) (by omega)]
theorem word_at (s : List B8) (q t : Nat) (ht : t < 4) : at8 (wordOf s q) t = at8 s (4 * q + t) := by
  match t, ht with
  | 0, _ => rfl
  | 1, _ => rfl
  | 2, _ => rfl
  | 3, _ => rfl
theorem colMix_at (f l : List B8) (t : Nat) (ht : t < 4) : at8 (colMix f l) t = mixSum f l t 4 := by
  match t, ht with
  | 0, _ => rfl
  | 1, _ => rfl
  | 2, _ => rfl
  | 3, _ => rfl
theorem mixSum_word (f b : List B8) (q t : Nat) (ht : t < 4) : ∀ n, n ≤ 4 → mixSum f (wordOf b q) t n = mixSum f b (4 * q + t) n
  | 0, _ => rfl
  | n + 1, hn => by
    show mixSum f (wordOf b q) t n ^^^ tm (at8 f ((n + 4 - t % 4) % 4)) (at8 (wordOf b q) (4 * (t / 4) + n)) = mixSum f b (4 * q + t) n ^^^ tm (at8 f ((n + 4 - (4 * q + t) % 4) % 4)) (at8 b (4 * ((4 * q + t) / 4) + n))
    rw [mixSum_word f b q t ht n (by omega), show 4 * (t / 4) + n = n by omega, word_at b q n (by omega), show (4 * q + t) % 4 = t % 4 by omega, show (4 * q + t) / 4 = q by omega]
theorem mix_cols (f b : List B8) : cols (fun k => colMix f (wordOf b k)) = mixBy f b := by
  refine at8_ext (cols_len _) (mixBy_len _ _) (fun i hi => ?_)
  unfold cols mixBy
  rw [mk16_at _ i hi, mk16_at _ i hi, colMix_at _ _ _ (by omega), mixSum_word f b _ _ (by omega) 4 (Nat.le_refl _), show 4 * (i / 4) + i % 4 = i by omega]
theorem map4_at' (f : B8 → B8) (l : List B8) (t : Nat) (ht : t < 4) : at8 (map4 f l) t = f (at8 l t) := map4_at f l t ht
theorem subs_cols (s : List B8) : cols (fun k => map4 bx (wordOf (turnS s) k)) = subs s := by
  refine at8_ext (cols_len _) (subs_len _) (fun i hi => ?_)
  unfold cols subs turnS
  rw [mk16_at _ i hi, mk16_at _ i hi, map4_at _ _ _ (by omega), word_at _ _ _ (by omega), show 4 * (i / 4) + i % 4 = i by omega, mk16_at _ i hi]; rfl
theorem unsubs_cols (s : List B8) : cols (fun k => map4 bk (wordOf (untS s) k)) = unsubs s := by
  refine at8_ext (cols_len _) (unsubs_len _) (fun i hi => ?_)
  unfold cols unsubs untS
  rw [mk16_at _ i hi, mk16_at _ i hi, map4_at _ _ _ (by omega), word_at _ _ _ (by omega), show 4 * (i / 4) + i % 4 = i by omega, mk16_at _ i hi]; rfl
theorem round_cols (s : List B8) : cols (fun k => colMix fwd (map4 bx (wordOf (turnS s) k))) = mixBy fwd (subs s) := by
  rw [← mix_cols]
  refine cols_congr (fun k hk => ?_)
  rw [← subs_cols, cols_word _ k hk rfl]
/-- Two mixes are one, of the factors' product. -/
theorem col_comp (f0 f1 f2 f3 g0 g1 g2 g3 h0 h1 h2 h3 : B8) (a0 a1 a2 a3 : B8)
    (e0 : tm g0 f0 ^^^ tm g1 f3 ^^^ tm g2 f2 ^^^ tm g3 f1 = h0) (e1 : tm g0 f1 ^^^ tm g1 f0 ^^^ tm g2 f3 ^^^ tm g3 f2 = h1)
    (e2 : tm g0 f2 ^^^ tm g1 f1 ^^^ tm g2 f0 ^^^ tm g3 f3 = h2) (e3 : tm g0 f3 ^^^ tm g1 f2 ^^^ tm g2 f1 ^^^ tm g3 f0 = h3) :
    colBy g0 g1 g2 g3 (colBy f0 f1 f2 f3 a0 a1 a2 a3) (colBy f3 f0 f1 f2 a0 a1 a2 a3) (colBy f2 f3 f0 f1 a0 a1 a2 a3) (colBy f1 f2 f3 f0 a0 a1 a2 a3) = colBy h0 h1 h2 h3 a0 a1 a2 a3 := by
  unfold colBy
  simp only [tm_add, tm_assoc]
  have q0 : tm (tm g0 f0) a0 ^^^ tm (tm g1 f3) a0 ^^^ tm (tm g2 f2) a0 ^^^ tm (tm g3 f1) a0 = tm h0 a0 := by
    rw [← tm_left a0, ← tm_left a0, ← tm_left a0, e0]
  have q1 : tm (tm g0 f1) a1 ^^^ tm (tm g1 f0) a1 ^^^ tm (tm g2 f3) a1 ^^^ tm (tm g3 f2) a1 = tm h1 a1 := by
    rw [← tm_left a1, ← tm_left a1, ← tm_left a1, e1]
  have q2 : tm (tm g0 f2) a2 ^^^ tm (tm g1 f1) a2 ^^^ tm (tm g2 f0) a2 ^^^ tm (tm g3 f3) a2 = tm h2 a2 := by
    rw [← tm_left a2, ← tm_left a2, ← tm_left a2, e2]
  have q3 : tm (tm g0 f3) a3 ^^^ tm (tm g1 f2) a3 ^^^ tm (tm g2 f1) a3 ^^^ tm (tm g3 f0) a3 = tm h3 a3 := by
    rw [← tm_left a3, ← tm_left a3, ← tm_left a3, e3]
  have hs : ∀ p0 p1 p2 p3 q0 q1 q2 q3 r0 r1 r2 r3 s0 s1 s2 s3 : B8, (p0 ^^^ p1 ^^^ p2 ^^^ p3) ^^^ (q0 ^^^ q1 ^^^ q2 ^^^ q3) ^^^ (r0 ^^^ r1 ^^^ r2 ^^^ r3) ^^^ (s0 ^^^ s1 ^^^ s2 ^^^ s3) = (p0 ^^^ q0 ^^^ r0 ^^^ s0) ^^^ (p1 ^^^ q1 ^^^ r1 ^^^ s1) ^^^ (p2 ^^^ q2 ^^^ r2 ^^^ s2) ^^^ (p3 ^^^ q3 ^^^ r3 ^^^ s3) := by
    intros; ac_rfl
  rw [hs, q0, q1, q2, q3]
theorem mix_comp (f g h b : List B8)
    (e0 : tm (at8 g 0) (at8 f 0) ^^^ tm (at8 g 1) (at8 f 3) ^^^ tm (at8 g 2) (at8 f 2) ^^^ tm (at8 g 3) (at8 f 1) = at8 h 0) (e1 : tm (at8 g 0) (at8 f 1) ^^^ tm (at8 g 1) (at8 f 0) ^^^ tm (at8 g 2) (at8 f 3) ^^^ tm (at8 g 3) (at8 f 2) = at8 h 1)
    (e2 : tm (at8 g 0) (at8 f 2) ^^^ tm (at8 g 1) (at8 f 1) ^^^ tm (at8 g 2) (at8 f 0) ^^^ tm (at8 g 3) (at8 f 3) = at8 h 2) (e3 : tm (at8 g 0) (at8 f 3) ^^^ tm (at8 g 1) (at8 f 2) ^^^ tm (at8 g 2) (at8 f 1) ^^^ tm (at8 g 3) (at8 f 0) = at8 h 3) :
    mixBy g (mixBy f b) = mixBy h b := by
  refine cols_ext (mixBy_len _ _) (mixBy_len _ _) (fun c hc => ?_)
  obtain ⟨q0, q1, q2, q3⟩ := mixBy_at g (mixBy f b) c hc
  obtain ⟨p0, p1, p2, p3⟩ := mixBy_at f b c hc
  obtain ⟨r0, r1, r2, r3⟩ := mixBy_at h b c hc
  rw [p0, p1, p2, p3] at q0 q1 q2 q3
  rw [q0, q1, q2, q3, r0, r1, r2, r3]
  generalize at8 b (4 * c) = a0; generalize at8 b (4 * c + 1) = a1; generalize at8 b (4 * c + 2) = a2; generalize at8 b (4 * c + 3) = a3
  generalize at8 f 0 = f0 at *; generalize at8 f 1 = f1 at *; generalize at8 f 2 = f2 at *; generalize at8 f 3 = f3 at *
  generalize at8 g 0 = g0 at *; generalize at8 g 1 = g1 at *; generalize at8 g 2 = g2 at *; generalize at8 g 3 = g3 at *
  generalize at8 h 0 = h0 at *; generalize at8 h 1 = h1 at *; generalize at8 h 2 = h2 at *; generalize at8 h 3 = h3 at *
  have x4' : ∀ p q r s : B8, p ^^^ q ^^^ r ^^^ s = q ^^^ r ^^^ s ^^^ p := by intros; ac_rfl
  have x4'' : ∀ p q r s : B8, p ^^^ q ^^^ r ^^^ s = r ^^^ s ^^^ p ^^^ q := by intros; ac_rfl
  have x4''' : ∀ p q r s : B8, p ^^^ q ^^^ r ^^^ s = s ^^^ p ^^^ q ^^^ r := by intros; ac_rfl
  refine ⟨col_comp _ _ _ _ _ _ _ _ _ _ _ _ a0 a1 a2 a3 e0 e1 e2 e3, ?_, ?_, ?_⟩
  · exact col_comp _ _ _ _ g3 g0 g1 g2 _ _ _ _ a0 a1 a2 a3 ((x4' _ _ _ _).trans e3) ((x4' _ _ _ _).trans e0) ((x4' _ _ _ _).trans e1) ((x4' _ _ _ _).trans e2)
  · exact col_comp _ _ _ _ g2 g3 g0 g1 _ _ _ _ a0 a1 a2 a3 ((x4'' _ _ _ _).trans e2) ((x4'' _ _ _ _).trans e3) ((x4'' _ _ _ _).trans e0) ((x4'' _ _ _ _).trans e1)
  · exact col_comp _ _ _ _ g1 g2 g3 g0 _ _ _ _ a0 a1 a2 a3 ((x4''' _ _ _ _).trans e1) ((x4''' _ _ _ _).trans e2) ((x4''' _ _ _ _).trans e3) ((x4''' _ _ _ _).trans e0)
theorem fwd3 (b : List B8) : mixBy fwd (mixBy fwd (mixBy fwd b)) = mixBy rev b := by
  rw [mix_comp fwd fwd [5#8, 0#8, 4#8, 0#8] b (by decide +kernel) (by decide +kernel) (by decide +kernel) (by decide +kernel)]
  exact mix_comp [5#8, 0#8, 4#8, 0#8] fwd rev b (by decide +kernel) (by decide +kernel) (by decide +kernel) (by decide +kernel)
theorem word_mix (f b : List B8) (k : Nat) (hk : k < 4) : wordOf (mixBy f b) k = colMix f (wordOf b k) := by
  rw [← mix_cols, cols_word _ k hk rfl]
theorem unmix_cols (b : List B8) : cols (fun k => mixN (wordOf b k) 3) = mixBy rev b := by
  rw [← fwd3, ← cols_own (mixBy_len fwd (mixBy fwd (mixBy fwd b)))]
  refine cols_congr (fun k hk => ?_)
  rw [word_mix _ _ k hk, word_mix _ _ k hk, word_mix _ _ k hk]; rfl
end Go.Proofs.Ythmjdebnjcopnaa
/- The program's Encrypt. -/
namespace Go.Proofs.Ythmjdebnjcopnaa
open Go.RowKit

/-- What memory is amid Encrypt and Decrypt: the state s at gs. -/
structure EncP (w : World) (g gs : Nat) (s : List B8) (wr : World) : Prop where
  res : Blk wr (g + 1) 44 (u8s (List.replicate 16 0))
  st : Blk wr gs 82 (u8s (nts s))
  but : But (fun _ => False) w wr
theorem EncP.then {w wr w' : World} {g gs : Nat} {s : List B8} (h : EncP w g gs s wr) (k : But (fun _ => False) wr w') : EncP w g gs s w' :=
  ⟨h.res.but k (fun h => h), h.st.but k (fun h => h), h.but.trans k⟩
theorem EncP.put {w wr w' : World} {g gs : Nat} {s s' : List B8} (h : EncP w g gs s wr) (hg : g = w.heap.size) (hgs : g + 1 < gs) (k : But (· = gs) wr w') (hb : Blk w' gs 82 (u8s (nts s'))) : EncP w g gs s' w' :=
  ⟨h.res.but k (show ¬ (g + 1 = gs) by omega), hb, h.but.then k (fun i hi e => by omega)⟩
theorem run_load_col {w : World} {g : Nat} {T : TypeId} {s : List B8} {o : Oper} {a : Act} {x : Operand} (hb : Blk w g T (u8s (nts s))) (off k : Nat) (hs : 4 * k + 4 ≤ s.length) (hoff : off = 4 * k) (ho : o.op = .load 80 x) (hx : a.eval x = .pointer (some ⟨g, off, none⟩)) :
    (execOp a.eval o).run Try.prog w = .ok (.value (.agg (u8s (nts (wordOf s k))).toArray)) w := by
  have h := run_loadVar_cells w ⟨g, off, none⟩ 80 (u8s (nts (wordOf s k))) _ (col_cells hb off k hs hoff) Try.underlying80 rfl (by rw [i55, u4l _ (word_len s k)])
  unfold execOp
  simp only [ho, hx, Instr.loadAt, Instr.sureAddr, Sem.run_bind, Sem.run_pure, Result.andThen_ok, h]
set_option maxRecDepth 100000 in
set_option maxHeartbeats 2000000 in
theorem encrypt_any {w : World} {gc gb gw : Nat} {W : List (List B8)} {b : List B8} (hW : Cph w gc gb gw W) (hb : b.length = 16) :
    Calls Try.prog 25 #[.pointer (some ⟨gc, 0, none⟩), .agg (u8s (nts b)).toArray] w fun e w' => e = .returned (.agg (u8s (nts (enc W b))).toArray) ∧ But (fun _ => False) w w' := by
  have hz := zero16
  have hzs := zeroS
  obtain ⟨Z, hZ⟩ : ∃ Z, Z = (u8s (List.replicate 16 0)).toArray := ⟨_, rfl⟩
  rw [← hZ] at hz hzs
  obtain ⟨C, hC⟩ : ∃ C, C = (u8s (nts b)).toArray := ⟨_, rfl⟩
  rw [← hC]
  have HZ := Hid.mk' hZ
  have HC := Hid.mk' hC
  have HW := Hid.mk' hW
  have HWL := Hid.mk' hW.len
  have HB := Hid.mk' hb
  have HNL : Hid ((nts b).length = 16) := by show _ = _; rw [nts_len]; exact hb
  clear hZ hC hb
  obtain ⟨g, hg⟩ : ∃ g, g = w.heap.size := ⟨_, rfl⟩
  obtain ⟨W0, hW0⟩ : ∃ W0, W0 = ((w.alloc (.cells C 44)).alloc (.cells Z 44)) := ⟨_, rfl⟩
  have hB0 : Blk W0 g 44 (u8s (nts b)) := by rw [hW0, HC.out]; exact (Blk.new hg.symm).but ((But.refl (fun _ => False) _).alloc _) (fun h => h)
  have hR0 : Blk W0 (g + 1) 44 (u8s (List.replicate 16 0)) := by rw [hW0, HZ.out]; exact Blk.new (by simp [hg])
  have hT0 : But (fun _ => False) w W0 := by rw [hW0]; exact ((But.refl _ w).alloc _).alloc _
  have HB0 := Hid.mk' hB0
  have HR0 := Hid.mk' hR0
  have HT0 := Hid.mk' hT0
  have HG := Hid.mk' hg
  have HW0 := Hid.mk' hW0
  have HCW := Hid.mk' (hW.grow hT0)
  have HLL : Hid (4 * (W.length / 4 - 1) + 4 = W.length ∧ 2 ≤ W.length / 4 - 1 ∧ W.length / 4 - 1 ≤ 14) := by show _ ∧ _; have := hW.len; omega
  have HRD := Hid.mk' (rounds_any HCW.out)
  obtain ⟨L, hL⟩ : ∃ L, L = W.length / 4 - 1 := ⟨_, rfl⟩
  rw [← hL] at HLL HRD
  have HL := Hid.mk' hL
  have hL2 : 2 ≤ L := HLL.out.2.1
  have hL14 : L ≤ 14 := HLL.out.2.2
  clear hB0 hR0 hT0 hg hW0 hW hL
  go_enter Try.func25, Try.ntmps25
  go_wp2_with fail
  rw [← HW0.out, ← HG.out]
  refine Calls.mono (made_any HCW.out) ?_
  rintro e w1 ⟨rfl, hw⟩
  have hw' := hw.symm
  subst hw'
  go_wp2_with fail
  refine Calls.mono HRD.out ?_
  rintro e w1 ⟨rfl, hw⟩
  have hw' := hw.symm
  subst hw'
  go_wp2_with (first
    | (refine wpList_load_u8s Try.underlying44 i23 rfl _ rfl g (nts b) HNL.out rfl HB0.out ?_)
    | fail)
  refine Calls.mono (stateOf_any HB.out) ?_
  rintro e w2 ⟨rfl, hb2⟩
  have HT2 := Hid.mk' (HT0.out.trans hb2)
  have HR2 := Hid.mk' (HR0.out.but hb2 (fun h => h))
  have HC2 := Hid.mk' (HCW.out.grow hb2)
  clear hb2 HW0 HRD
  go_wp2_with fail
  refine Calls.mono (keyed_any (r := 0) HC2.out HB.out (by have := HLL.out.1; omega)) ?_
  rintro e w3 ⟨rfl, hb3⟩
  have HT3 := Hid.mk' (HT2.out.trans hb3)
  have HR3 := Hid.mk' (HR2.out.but hb3 (fun h => h))
  clear hb3 HT2 HR2 HC2
  obtain ⟨S0, hS0⟩ : ∃ S0, S0 = addK W 0 b := ⟨_, rfl⟩
  have HSL : Hid ((nts S0).length = 16) := by show _ = _; rw [hS0, nts_len, addK_len]
  rw [← hS0]
  have HS0 := Hid.mk' hS0
  clear hS0
  have HBS : Hid (Blk (w3.alloc (.cells Z 82)) w3.heap.size 82 (u8s (List.replicate 16 0))) := by show Blk _ _ _ _; rw [HZ.out]; exact Blk.new rfl
  go_wp2_with (refine wpList_store_u8s i57 rfl _ _ rfl w3.heap.size (nts S0) HSL.out rfl (by exact rfl) _ (by simp [u8s]) HBS.out ?_; intro w4 hb4 hbut4)
  obtain ⟨gs, hgs⟩ : ∃ gs, gs = w3.heap.size := ⟨_, rfl⟩
  have HGS : Hid (g + 1 < gs) := by show g + 1 < gs; rw [hgs]; exact HR3.out.lt
  have HI0 : Hid (EncP w g gs S0 w4) := by
    rw [← hgs] at hb4 hbut4
    have ha : But (fun _ => False) w3 (w3.alloc (.cells Z 82)) := (But.refl _ w3).alloc _
    exact ⟨(HR3.out.but ha (fun h => h)).but hbut4 (show ¬ (g + 1 = gs) by have := HGS.out; omega), hb4, (HT3.out.trans ha).then hbut4 (fun i hi e => by have := HGS.out; have := HG.out; omega)⟩
  rw [← hgs]
  clear hb4 hbut4 hgs HT3 HR3 HBS HCW HR0 HT0 HB0 hz hzs HSL
  generalize (u8s (nts S0)).toArray = SV
  generalize (u8s (nts b)).toArray = BV
  go_loopw [7] (fun i wr => ∃ k : Nat, k + 1 ≤ L ∧ i = .int .i64 (k + 1 : Nat) ∧ EncP w g gs (encR W L b k) wr) (fun i _ => 20 - (intOf i).toNat)
  case atStart => exact ⟨0, by omega, rfl, by have h := HI0.out; rw [HS0.out] at h; exact h⟩
  case round =>
    obtain ⟨r, hr, rfl, hI⟩ := hrel
    obtain ⟨S, hS⟩ : ∃ S, S = encR W L b r := ⟨_, rfl⟩
    rw [← hS] at hI
    have HSL : Hid (S.length = 16) := by show _ = _; rw [hS, encR_len]
    have HSN : Hid ((nts S).length = 16) := by show _ = _; rw [nts_len]; exact HSL.out
    have HSU : Hid ((u8s (nts S)).length = 16) := by show _ = _; unfold u8s; rw [List.length_map]; exact HSN.out
    have HSE := Hid.mk' hS
    have HI1 := Hid.mk' hI
    clear hS hI HI0
    obtain ⟨T, hT⟩ : ∃ T, T = turnS S := ⟨_, rfl⟩
    have HTL : Hid (T.length = 16) := by show _ = _; rw [hT, turnS_len]
    have HTN : Hid ((nts T).length = 16) := by show _ = _; rw [nts_len]; exact HTL.out
    have HTE := Hid.mk' hT
    clear hT
    by_cases hrt : r + 1 < L
    · have hri : ((r + 1 : Nat) : Int) < (L : Int) := by omega
      obtain ⟨p, hp⟩ : ∃ p, p = r + 1 := ⟨_, rfl⟩
      rw [← hp] at hri ⊢
      have HP := Hid.mk' hp
      clear hp
      obtain ⟨F, hF⟩ : ∃ F : Nat → List B8, F = fun k => colMix fwd (map4 bx (wordOf T k)) := ⟨_, rfl⟩
      have HF := Hid.mk' hF
      clear hF
      go_wp2_with (first
        | (refine wpList_load_u8s Try.underlying82 i57 rfl _ rfl gs (nts S) HSN.out rfl HI1.out.st ?_)
        | fail)
      refine Calls.mono (turned_any HSL.out) ?_
      rintro e w5 ⟨rfl, hb5⟩
      rw [← HTE.out]
      have HI5 := Hid.mk' (HI1.out.then hb5)
      clear hb5 HI1
      go_wp2_with (refine wpList_store_u8s i57 rfl _ _ rfl gs (nts T) HTN.out rfl (by exact rfl) _ HSU.out HI5.out.st ?_; intro w6 hb6 hbut6)
      have HIT := Hid.mk' (HI5.out.put HG.out HGS.out hbut6 hb6)
      clear hb6 hbut6 HI5
      generalize (u8s (nts S)).toArray = SV2
      generalize (u8s (nts T)).toArray = TV2
      go_loopw [27] (fun i wr => ∃ k : Nat, k ≤ 4 ∧ i = .int .i64 k ∧ EncP w g gs (colsTo F T k) wr) (fun i _ => 4 - (intOf i).toNat)
      case atStart => exact ⟨0, by decide, rfl, by rw [colsTo_zero F HTL.out]; exact HIT.out⟩
      case round =>
        obtain ⟨k, hk, rfl, hI⟩ := hrel
        obtain ⟨M, hM⟩ : ∃ M, M = colsTo F T k := ⟨_, rfl⟩
        have HML : Hid (M.length = 16) := by show _ = _; rw [hM, colsTo_len]
        rw [← hM] at hI
        have HM := Hid.mk' hM
        have HI2 := Hid.mk' hI
        clear hI hM HIT
        by_cases hlt : k < 4
        · have hki : (k : Int) < 4 := by omega
          have HMW : Hid (wordOf M k = wordOf T k) := by show _ = _; rw [HM.out]; exact colsTo_word F T k hlt
          have HC3 := Hid.mk' (HW.out.grow HI2.out.but)
          have HC0 : Hid (∀ w', But (fun _ => False) wr w' → w'.cell? ⟨gc, 0, none⟩ = some (.pointer (some ⟨gb, 0, none⟩))) := by
            intro w' hw'
            rw [(HC3.out.grow hw').blk.cell]; rfl
          go_upto_region 12 with fail
          refine region_class (l := [_, _, _, _, _, _, _, _, _, _]) (o := _) (fun w' => But (fun _ => False) wr w') (by kernel_rfl) (by kernel_rfl) (by kernel_rfl) rfl (by kernel_rfl) (by kernel_rfl) ((But.refl _ wr).drew) ?_
          refine class_val _ rfl (fun w' _ => rfl) ?_
          intro K hK; go_simp; refine hK _ ?_; clear hK K
          refine class_val _ rfl (fun w' _ => rfl) ?_
          intro K hK; go_simp; refine hK _ ?_; clear hK K
          refine class_val (.pointer (some ⟨gs, k * 4, none⟩)) rfl (fun w' _ => by go_simp) ?_
          intro K hK; go_simp; refine hK _ ?_; clear hK K
          refine class_val (.agg (u8s (nts (wordOf M k))).toArray) rfl (fun w' hw' => run_load_col (HI2.out.st.but hw' (fun h => h)) (k * 4) k (by have := HML.out; omega) (by omega) rfl rfl) ?_
          intro K hK; go_simp; refine hK _ ?_; clear hK K
          refine class_val _ rfl (fun w' _ => rfl) ?_
          intro K hK; go_simp; refine hK _ ?_; clear hK K
          refine class_val (.pointer (some ⟨gc, 0, none⟩)) rfl (fun w' _ => by go_simp) ?_
          intro K hK; go_simp; refine hK _ ?_; clear hK K
          refine class_val (.pointer (some ⟨gc, 0, none⟩)) rfl (fun w' _ => by go_simp) ?_
          intro K hK; go_simp; refine hK _ ?_; clear hK K
          refine class_val (.pointer (some ⟨gb, 0, none⟩)) rfl (fun w' hw' => by have c0 := HC0.out w' hw'; go_simp) ?_
          intro K hK; go_simp; refine hK _ ?_; clear hK K
          refine class_call (.agg (u8s (nts (F k))).toArray) 44 #[.agg (u8s (nts (wordOf M k))).toArray, .pointer (some ⟨gb, 0, none⟩)] rfl (fun w' _ => by kernel_rfl) (fun w' hw' => (mixedBoxes_any (HC3.out.grow hw').bxs (word_len M k)).mono (fun e w'' h => ⟨by rw [h.1, HMW.out, HF.out], hw'.trans h.2⟩)) ?_
          intro K hK; go_simp; refine hK _ ?_; clear hK K
          refine class_val (.pointer (some ⟨gs, k * 4, none⟩)) rfl (fun w' _ => by go_simp) ?_
          intro K hK; go_simp; refine hK _ ?_; clear hK K
          refine wpQuiet_nil ?_
          intro w5 hw5
          have HFL : Hid ((F k).length = 4) := by show _ = _; rw [HF.out]; rfl
          have HS5 := Hid.mk' (HI2.out.st.but hw5 (fun h => h))
          go_wp2_with (refine wpList_store_col rfl _ _ rfl gs (k * 4) k 82 M (F k) HML.out HFL.out hlt (by omega) (by rfl) (by rfl) HS5.out ?_; intro w6 hb6 hbut6)
          refine ⟨⟨k + 1, by omega, by go_num, ?_⟩, by simp [intOf]; omega⟩
          refine (HI2.out.then hw5).put HG.out HGS.out hbut6 ?_
          rw [← colsTo_set _ k hlt HFL.out, ← HM.out]
          exact hb6
        · have hk4 : k = 4 := by omega
          subst hk4
          have HMS : Hid (M = mixBy fwd (subs S)) := by show _ = _; rw [HM.out, colsTo_all, HF.out, HTE.out, round_cols]
          have HMN : Hid ((nts M).length = 16) := by show _ = _; rw [nts_len]; exact HML.out
          have HMU : Hid ((u8s (nts M)).length = 16) := by show _ = _; unfold u8s; rw [List.length_map]; exact HMN.out
          have HC4 := Hid.mk' (HW.out.grow HI2.out.but)
          go_wp2_with (first
            | (refine wpList_load_u8s Try.underlying82 i57 rfl _ rfl gs (nts M) HMN.out rfl HI2.out.st ?_)
            | fail)
          refine Calls.mono (keyed_any (r := p) HC4.out HML.out (by have := HLL.out.1; have := HP.out; omega)) ?_
          rintro e w7 ⟨rfl, hb7⟩
          have HI7 := Hid.mk' (HI2.out.then hb7)
          clear hb7 HI2 HC4
          obtain ⟨N, hN⟩ : ∃ N, N = addK W p M := ⟨_, rfl⟩
          have HNN : Hid ((nts N).length = 16) := by show _ = _; rw [hN, nts_len, addK_len]
          rw [← hN]
          have HNE := Hid.mk' hN
          clear hN
          go_wp2_with (refine wpList_store_u8s i57 rfl _ _ rfl gs (nts N) HNN.out rfl (by exact rfl) _ HMU.out HI7.out.st ?_; intro w8 hb8 hbut8)
          refine ⟨⟨p, by omega, by go_num, ?_⟩, by simp [intOf]; omega⟩
          have hst : encR W L b p = N := by
            rw [HP.out]
            show addK W (r + 1) (if r + 1 < L then mixBy fwd (subs (encR W L b r)) else subs (encR W L b r)) = N
            rw [if_pos hrt, HNE.out, HMS.out, ← HSE.out, HP.out]
          rw [hst]
          exact HI7.out.put HG.out HGS.out hbut8 hb8
    · have hrL : L = r + 1 := by omega
      have hri : ¬ ((r + 1 : Nat) : Int) < (L : Int) := by omega
      obtain ⟨p, hp⟩ : ∃ p, p = r + 1 := ⟨_, rfl⟩
      rw [← hp] at hri ⊢
      have HP := Hid.mk' hp
      have HRL := Hid.mk' hrL
      clear hp hrL hrt
      obtain ⟨F, hF⟩ : ∃ F : Nat → List B8, F = fun k => map4 bx (wordOf T k) := ⟨_, rfl⟩
      have HF := Hid.mk' hF
      clear hF
      go_wp2_with (first
        | (refine wpList_load_u8s Try.underlying82 i57 rfl _ rfl gs (nts S) HSN.out rfl HI1.out.st ?_)
        | fail)
      refine Calls.mono (turned_any HSL.out) ?_
      rintro e w5 ⟨rfl, hb5⟩
      rw [← HTE.out]
      have HI5 := Hid.mk' (HI1.out.then hb5)
      clear hb5 HI1
      go_wp2_with (refine wpList_store_u8s i57 rfl _ _ rfl gs (nts T) HTN.out rfl (by exact rfl) _ HSU.out HI5.out.st ?_; intro w6 hb6 hbut6)
      have HIT := Hid.mk' (HI5.out.put HG.out HGS.out hbut6 hb6)
      clear hb6 hbut6 HI5
      generalize (u8s (nts S)).toArray = SV2
      generalize (u8s (nts T)).toArray = TV2
      go_loopw [47] (fun i wr => ∃ k : Nat, k ≤ 4 ∧ i = .int .i64 k ∧ EncP w g gs (colsTo F T k) wr) (fun i _ => 4 - (intOf i).toNat)
      case atStart => exact ⟨0, by decide, rfl, by rw [colsTo_zero F HTL.out]; exact HIT.out⟩
      case round =>
        obtain ⟨k, hk, rfl, hI⟩ := hrel
        obtain ⟨M, hM⟩ : ∃ M, M = colsTo F T k := ⟨_, rfl⟩
        have HML : Hid (M.length = 16) := by show _ = _; rw [hM, colsTo_len]
        rw [← hM] at hI
        have HM := Hid.mk' hM
        have HI2 := Hid.mk' hI
        clear hI hM HIT
        by_cases hlt : k < 4
        · have hki : (k : Int) < 4 := by omega
          have HMW : Hid (wordOf M k = wordOf T k) := by show _ = _; rw [HM.out]; exact colsTo_word F T k hlt
          have HC3 := Hid.mk' (HW.out.grow HI2.out.but)
          have HC0 : Hid (∀ w', But (fun _ => False) wr w' → w'.cell? ⟨gc, 0, none⟩ = some (.pointer (some ⟨gb, 0, none⟩))) := by
            intro w' hw'
            rw [(HC3.out.grow hw').blk.cell]; rfl
          go_upto_region 19 with fail
          refine region_class (l := [_, _, _, _, _, _, _, _, _, _]) (o := _) (fun w' => But (fun _ => False) wr w') (by kernel_rfl) (by kernel_rfl) (by kernel_rfl) rfl (by kernel_rfl) (by kernel_rfl) ((But.refl _ wr).drew) ?_
          refine class_val _ rfl (fun w' _ => rfl) ?_
          intro K hK; go_simp; refine hK _ ?_; clear hK K
          refine class_val _ rfl (fun w' _ => rfl) ?_
          intro K hK; go_simp; refine hK _ ?_; clear hK K
          refine class_val (.pointer (some ⟨gs, k * 4, none⟩)) rfl (fun w' _ => by go_simp) ?_
          intro K hK; go_simp; refine hK _ ?_; clear hK K
          refine class_val (.agg (u8s (nts (wordOf M k))).toArray) rfl (fun w' hw' => run_load_col (HI2.out.st.but hw' (fun h => h)) (k * 4) k (by have := HML.out; omega) (by omega) rfl rfl) ?_
          intro K hK; go_simp; refine hK _ ?_; clear hK K
          refine class_val _ rfl (fun w' _ => rfl) ?_
          intro K hK; go_simp; refine hK _ ?_; clear hK K
          refine class_val (.pointer (some ⟨gc, 0, none⟩)) rfl (fun w' _ => by go_simp) ?_
          intro K hK; go_simp; refine hK _ ?_; clear hK K
          refine class_val (.pointer (some ⟨gc, 0, none⟩)) rfl (fun w' _ => by go_simp) ?_
          intro K hK; go_simp; refine hK _ ?_; clear hK K
          refine class_val (.pointer (some ⟨gb, 0, none⟩)) rfl (fun w' hw' => by have c0 := HC0.out w' hw'; go_simp) ?_
          intro K hK; go_simp; refine hK _ ?_; clear hK K
          refine class_call (.agg (u8s (nts (F k))).toArray) 45 #[.agg (u8s (nts (wordOf M k))).toArray, .pointer (some ⟨gb, 0, none⟩)] rfl (fun w' _ => by kernel_rfl) (fun w' hw' => (cboxed_any (HC3.out.grow hw').bxs (word_len M k)).mono (fun e w'' h => ⟨by rw [h.1, HMW.out, HF.out], hw'.trans h.2⟩)) ?_
          intro K hK; go_simp; refine hK _ ?_; clear hK K
          refine class_val (.pointer (some ⟨gs, k * 4, none⟩)) rfl (fun w' _ => by go_simp) ?_
          intro K hK; go_simp; refine hK _ ?_; clear hK K
          refine wpQuiet_nil ?_
          intro w5 hw5
          have HFL : Hid ((F k).length = 4) := by show _ = _; rw [HF.out]; rfl
          have HS5 := Hid.mk' (HI2.out.st.but hw5 (fun h => h))
          go_wp2_with (refine wpList_store_col rfl _ _ rfl gs (k * 4) k 82 M (F k) HML.out HFL.out hlt (by omega) (by rfl) (by rfl) HS5.out ?_; intro w6 hb6 hbut6)
          refine ⟨⟨k + 1, by omega, by go_num, ?_⟩, by simp [intOf]; omega⟩
          refine (HI2.out.then hw5).put HG.out HGS.out hbut6 ?_
          rw [← colsTo_set _ k hlt HFL.out, ← HM.out]
          exact hb6
        · have hk4 : k = 4 := by omega
          subst hk4
          have HMS : Hid (M = subs S) := by show _ = _; rw [HM.out, colsTo_all, HF.out, HTE.out, subs_cols]
          have HMN : Hid ((nts M).length = 16) := by show _ = _; rw [nts_len]; exact HML.out
          have HC4 := Hid.mk' (HW.out.grow HI2.out.but)
          go_wp2_with (first
            | (refine wpList_load_u8s Try.underlying82 i57 rfl _ rfl gs (nts M) HMN.out rfl HI2.out.st ?_)
            | fail)
          refine Calls.mono (keyed_any (r := L) HC4.out HML.out (by have := HLL.out.1; omega)) ?_
          rintro e w7 ⟨rfl, hb7⟩
          have HI7 := Hid.mk' (HI2.out.then hb7)
          clear hb7 HI2 HC4
          obtain ⟨N, hN⟩ : ∃ N, N = addK W L M := ⟨_, rfl⟩
          have HNL2 : Hid (N.length = 16) := by show _ = _; rw [hN, addK_len]
          have HNN : Hid ((nts N).length = 16) := by show _ = _; rw [hN, nts_len, addK_len]
          rw [← hN]
          have HNE := Hid.mk' hN
          clear hN
          go_wp2_with fail
          refine Calls.mono (blockOf_any HNL2.out) ?_
          rintro e w8 ⟨rfl, hb8⟩
          have HI8 := Hid.mk' (HI7.out.then hb8)
          clear hb8 HI7
          go_wp2_with (refine wpList_store_u8s i23 rfl _ _ rfl (g + 1) (nts N) HNN.out rfl (by exact rfl) _ (by simp [u8s]) HI8.out.res ?_; intro w9 hb9 hbut9)
          refine bodyPost_ret (results_cell_row rfl _ _ (g + 1) _ _ _ _ rfl hb9 Try.underlying44 rfl (by rw [i23]; simp [u8s, HNN.out])) rfl ⟨?_, HI8.out.but.then hbut9 (fun i hi e => by have := HG.out; omega)⟩
          have hst : enc W b = N := by
            unfold enc
            rw [← HL.out, HRL.out]
            show addK W (r + 1) (if r + 1 < r + 1 then _ else subs (encR W (r + 1) b r)) = N
            rw [if_neg (Nat.lt_irrefl _), HNE.out, HMS.out, HSE.out, HRL.out]
          rw [hst]
end Go.Proofs.Ythmjdebnjcopnaa
/- The program's grown: what a word of a key leaves in the next one. -/
namespace Go.Proofs.Ythmjdebnjcopnaa
open Go.RowKit

theorem num_two : (b8 2#8 : Int) = 2 := by decide
set_option maxRecDepth 100000 in
set_option maxHeartbeats 1000000 in
theorem grown_any {w : World} {gb : Nat} {l : List B8} {i n : Nat} (hb : Bxs w gb) (hl : l.length = 4) (hn : n = 4 ∨ n = 8) (hi : n ≤ i) (hi2 : i < 60) :
    Calls Try.prog 60 #[.agg (u8s (nts l)).toArray, .int .i64 i, .int .i64 n, .pointer (some ⟨gb, 0, none⟩)] w fun e w' => e = .returned (.agg (u8s (nts (turned n i l))).toArray) ∧ But (fun _ => False) w w' := by
  obtain ⟨C, hC⟩ : ∃ C, C = (u8s (nts l)).toArray := ⟨_, rfl⟩
  rw [← hC]
  have HC := Hid.mk' hC
  have HB := Hid.mk' hb
  obtain ⟨g, hg⟩ : ∃ g, g = w.heap.size := ⟨_, rfl⟩
  obtain ⟨W0, hW0⟩ : ∃ W0, W0 = ((w.alloc (.cells C 80)).alloc (.cells #[.int .u8 0, .int .u8 0, .int .u8 0, .int .u8 0] 80)) := ⟨_, rfl⟩
  have hI : ColI w g l W0 := by
    rw [hW0, HC.out]
    exact ⟨(Blk.new hg.symm).but ((But.refl (fun _ => False) _).alloc _) (fun h => h), Blk.new (L := u8s (List.replicate 4 0)) (by simp [hg]), ((But.refl _ w).alloc _).alloc _⟩
  have HI := Hid.mk' hI
  have HG := Hid.mk' hg
  have HW0 := Hid.mk' hW0
  have HLN : Hid ((nts l).length = 4) := by show _ = _; rw [nts_len]; exact hl
  have HLU : Hid ((u8s (nts l)).length = 4) := by show _ = _; unfold u8s; rw [List.length_map]; exact HLN.out
  have HL := Hid.mk' hl
  have HB0 := Hid.mk' (hb.but hI.but (fun h => h))
  have hc : ∀ j, j < 4 → W0.cell? ⟨g, j, none⟩ = some (.int .u8 (b8 (at8 l j) : Nat)) := fun j hj => blk_nts hI.src j (by omega)
  have c0 := hc 0 (by decide)
  have c1 := hc 1 (by decide)
  have c2 := hc 2 (by decide)
  have c3 := hc 3 (by decide)
  clear hC hb hI hg hl hc
  rw [hW0, HG.out] at c0 c1 c2 c3
  clear hW0
  obtain ⟨r, hr⟩ : ∃ r, r = i % n := ⟨_, rfl⟩
  obtain ⟨q, hq⟩ : ∃ q, q = i / n - 1 := ⟨_, rfl⟩
  have hn0 : 0 < n := by omega
  have hq9 : q ≤ 14 := by
    rw [hq]
    rcases hn with h | h <;> subst h <;> omega
  have w1 : Int.tmod (i : Int) (n : Int) = (r : Int) := by rw [Int.tmod_eq_emod_of_nonneg (by omega), hr]; simp
  have w2 : Int.tdiv (i : Int) (n : Int) = ((q + 1 : Nat) : Int) := by
    rw [Int.tdiv_eq_ediv_of_nonneg (by omega), hq]
    have h1 : 1 ≤ i / n := (Nat.le_div_iff_mul_le hn0).2 (by omega)
    rw [show i / n - 1 + 1 = i / n by omega]; simp
  obtain ⟨m, hm⟩ : ∃ m, m = q + 1 := ⟨_, rfl⟩
  rw [← hm] at w2
  have w3 : IntKind.i64.wrap (m : Int) = (m : Int) := by simp [IntKind.wrap, IntKind.bits, IntKind.signed]; omega
  have w4 : IntKind.i64.wrap ((m : Int) - 1) = (q : Int) := by simp [IntKind.wrap, IntKind.bits, IntKind.signed]; omega
  have HPW : Hid (∀ w, Calls Try.prog 86 #[.int .u8 2, .int .i64 (q : Int)] w fun e w' => e = .returned (.int .u8 (b8 (pw 2#8 q))) ∧ w' = w) := by
    intro w
    have h := power_any 2#8 (q : Int) (by omega) w
    rw [num_two] at h
    exact h
  have hnz : ((n : Int) == 0) = false := by simp; omega
  have hnz2 : ¬ (n : Int) = 0 := by omega
  have hnz3 : ¬ n = 0 := by omega
  by_cases h0 : r = 0
  · have HT : Hid (turned n i l = [bx (at8 l 1) ^^^ pw 2#8 q, bx (at8 l 2), bx (at8 l 3), bx (at8 l 0)]) := by
      show _ = _
      unfold turned
      rw [if_pos (by omega), hq]
    have hr0 : ((r : Int) == 0) = true := by simp [h0]
    subst h0
    clear hr hq hm
    go_enter Try.func60, Try.ntmps60
    go_wp2_with fail
    rw [← HW0.out, ← HG.out]
    have HCB := Hid.mk' (cboxed_any (l := [at8 l 1, at8 l 2, at8 l 3, at8 l 0]) HB0.out rfl)
    refine Calls.mono HCB.out ?_
    rintro e w1 ⟨rfl, hb1⟩
    obtain ⟨M, hM⟩ : ∃ M, M = map4 bx [at8 l 1, at8 l 2, at8 l 3, at8 l 0] := ⟨_, rfl⟩
    rw [← hM]
    have HMN : Hid ((nts M).length = 4) := by show _ = _; rw [hM]; rfl
    have HI1 : Hid (ColI w g l w1) := ⟨HI.out.src.but hb1 (fun h => h), HI.out.res.but hb1 (fun h => h), HI.out.but.trans hb1⟩
    have HM := Hid.mk' hM
    clear hM hb1 HCB HI HW0 HB0 c0 c1 c2 c3 HB
    go_upto_region 3 with (refine wpList_store_u8s i55 rfl _ _ rfl g (nts M) HMN.out rfl (by exact rfl) _ HLU.out HI1.out.src ?_; intro w2 hb2 hbut2)
    have HI2 : Hid (ColI w g M w2) := ⟨hb2, HI1.out.res.but hbut2 (show ¬ (g + 1 = g) by omega), HI1.out.but.then hbut2 (fun i hi e => by have := HG.out; omega)⟩
    have c0 := blk_nts HI2.out.src 0 (by rw [HM.out]; exact Nat.zero_lt_succ _)
    have hf0 := HI2.out.src.free 0
    clear hb2 hbut2 HI1
    have hx := xor_b8 (bx (at8 l 1)) (pw 2#8 q)
    rw [show at8 M 0 = bx (at8 l 1) by rw [HM.out]; rfl] at c0
    obtain ⟨X, hX⟩ : ∃ X, X = bx (at8 l 1) := ⟨_, rfl⟩
    obtain ⟨Y, hY⟩ : ∃ Y, Y = pw 2#8 q := ⟨_, rfl⟩
    rw [← hX] at hx c0
    rw [← hY] at hx HPW
    have HXE := Hid.mk' hX
    have HYE := Hid.mk' hY
    clear hX hY
    refine region_ends (l := [_, _, _, _, _, _, _, _, _]) (o := _) (by kernel_rfl) (by kernel_rfl) (by kernel_rfl) rfl (by kernel_rfl) (by kernel_rfl) ?_
    repeat (quiet_step ((go_at_call 86; exact Calls.quiet_of_same (HPW.out _))))
    refine wpQuiet_nil ?_
    intro _ hw'
    obtain ⟨nq, hw''⟩ := hw'
    subst hw''
    obtain ⟨R, hR⟩ : ∃ R, R = M.set 0 (X ^^^ Y) := ⟨_, rfl⟩
    have HRE : Hid (turned n i l = R) := by show _ = _; rw [HT.out, hR, HM.out, ← HXE.out, ← HYE.out]; rfl
    have HRN : Hid ((nts R).length = 4) := by show _ = _; rw [hR, nts_len, List.length_set, HM.out]; rfl
    have HN3 : Hid (But (fun _ => False) w2 (w2.drewN nq)) := (But.refl _ w2).drewN
    have HB3 : Hid (Blk ((w2.drewN nq).setCell ⟨g, 0, none⟩ (.int .u8 (b8 (X ^^^ Y) : Nat))) g 80 (u8s (nts R))) := by
      show Blk _ _ _ _
      rw [hR]
      exact blk_nts_set (HI2.out.src.but HN3.out (fun h => h)) 0 _
    have HT3 : Hid (But (· = g) w2 ((w2.drewN nq).setCell ⟨g, 0, none⟩ (.int .u8 (b8 (X ^^^ Y) : Nat)))) := ((But.refl (· = g) w2).drewN (n := nq)).setCell (p := ⟨g, 0, none⟩) (fun _ => rfl) _
    have HR3 := Hid.mk' (HI2.out.res.but HT3.out (show ¬ (g + 1 = g) by omega))
    clear hR
    go_wp2_with (first
      | (refine wpList_load_u8s Try.underlying80 i55 rfl _ rfl g (nts R) HRN.out rfl HB3.out ?_)
      | (refine wpList_store_u8s i55 rfl _ _ rfl (g + 1) (nts R) HRN.out rfl (by exact rfl) _ (by simp [u8s]) HR3.out ?_; intro w4 hb4 hbut4))
    refine bodyPost_ret (results_cell_row rfl _ _ (g + 1) _ _ _ _ rfl hb4 Try.underlying80 rfl (by rw [i55]; simp [u8s, HRN.out])) rfl ⟨by rw [HRE.out], ?_⟩
    exact (HI2.out.but.then HT3.out (fun i hi e => by have := HG.out; omega)).then hbut4 (fun i hi e => by have := HG.out; omega)
  · have hr0 : ((r : Int) == 0) = false := by simp; exact h0
    have hr1 : ¬ (r : Int) = 0 := by omega
    by_cases h8 : n = 8 ∧ r = 4
    · have HT : Hid (turned n i l = map4 bx l) := by
        show _ = _
        unfold turned
        rw [if_neg (by rw [← hr]; exact h0), if_pos ⟨h8.1, by have := h8.2; rw [hr, h8.1] at this; exact this⟩]; rfl
      obtain ⟨h8a, h8b⟩ := h8
      have hn8 : ((n : Int) == 8) = true := by simp [h8a]
      have hr4 : ((r : Int) == 4) = true := by simp [h8b]
      clear hr hq hm h0 w2 w3 w4 HPW c0 c1 c2 c3 hr1 h8a h8b
      have HS0 : Hid (Blk ((w.alloc (.cells C 80)).alloc (.cells #[.int .u8 0, .int .u8 0, .int .u8 0, .int .u8 0] 80)) w.heap.size 80 (u8s (nts l))) := by show Blk _ _ _ _; rw [← HW0.out, ← HG.out]; exact HI.out.src
      go_enter Try.func60, Try.ntmps60
      go_wp2_with (first
        | (refine wpList_load_u8s Try.underlying80 i55 rfl _ rfl w.heap.size (nts l) HLN.out rfl HS0.out ?_)
        | fail)
      rw [← HW0.out, ← HG.out]
      refine Calls.mono (cboxed_any HB0.out HL.out) ?_
      rintro e w1 ⟨rfl, hb1⟩
      obtain ⟨R, hR⟩ : ∃ R, R = map4 bx l := ⟨_, rfl⟩
      rw [← hR]
      have HRE : Hid (turned n i l = R) := by show _ = _; rw [HT.out, hR]
      have HRN : Hid ((nts R).length = 4) := by show _ = _; rw [hR]; rfl
      have HI1 : Hid (ColI w g l w1) := ⟨HI.out.src.but hb1 (fun h => h), HI.out.res.but hb1 (fun h => h), HI.out.but.trans hb1⟩
      clear hR hb1 HI HW0 HB0 HB HS0
      go_upto_region 6 with (refine wpList_store_u8s i55 rfl _ _ rfl g (nts R) HRN.out rfl (by exact rfl) _ HLU.out HI1.out.src ?_; intro w2 hb2 hbut2)
      have HB2 := Hid.mk' hb2
      have HR2 := Hid.mk' (HI1.out.res.but hbut2 (show ¬ (g + 1 = g) by omega))
      have HT2 := Hid.mk' hbut2
      clear hb2 hbut2
      go_wp2_with (first
        | (refine wpList_load_u8s Try.underlying80 i55 rfl _ rfl g (nts R) HRN.out rfl HB2.out ?_)
        | (refine wpList_store_u8s i55 rfl _ _ rfl (g + 1) (nts R) HRN.out rfl (by exact rfl) _ (by simp [u8s]) HR2.out ?_; intro w4 hb4 hbut4))
      refine bodyPost_ret (results_cell_row rfl _ _ (g + 1) _ _ _ _ rfl hb4 Try.underlying80 rfl (by rw [i55]; simp [u8s, HRN.out])) rfl ⟨by rw [HRE.out], ?_⟩
      exact (HI1.out.but.then HT2.out (fun i hi e => by have := HG.out; omega)).then hbut4 (fun i hi e => by have := HG.out; omega)
    · have HRE : Hid (turned n i l = l) := by
        show _ = _
        unfold turned
        rw [if_neg (by rw [← hr]; exact h0), if_neg (fun h => h8 ⟨h.1, by have := h.2; rw [hr, h.1]; exact this⟩)]
      have hS0 : Blk ((w.alloc (.cells C 80)).alloc (.cells #[.int .u8 0, .int .u8 0, .int .u8 0, .int .u8 0] 80)) w.heap.size 80 (u8s (nts l)) := by rw [← HW0.out, ← HG.out]; exact HI.out.src
      have HS0 := Hid.mk' hS0
      have hR0 : Blk ((w.alloc (.cells C 80)).alloc (.cells #[.int .u8 0, .int .u8 0, .int .u8 0, .int .u8 0] 80)) (w.heap.size + 1) 80 (u8s (List.replicate 4 0)) := by rw [← HW0.out, ← HG.out]; exact HI.out.res
      have HR0 := Hid.mk' hR0
      clear hr hq hm w2 w3 w4 HPW c0 c1 c2 c3 hS0 hR0
      have fin : ∀ w4, But (· = w.heap.size + 1) ((w.alloc (.cells C 80)).alloc (.cells #[.int .u8 0, .int .u8 0, .int .u8 0, .int .u8 0] 80)) w4 → But (fun _ => False) w w4 := fun w4 hb => (by rw [← HW0.out] at hb; exact HI.out.but.then hb (fun i hi e => by omega))
      have HFIN := Hid.mk' fin
      clear fin
      by_cases h88 : n = 8
      · have h4' : ((r : Int) == 4) = false := by simp; omega
        have hn8 : ((n : Int) == 8) = true := by simp [h88]
        clear h8 h88 hr1 h0
        go_enter Try.func60, Try.ntmps60
        go_wp2_with (first
          | (refine wpList_load_u8s Try.underlying80 i55 rfl _ rfl w.heap.size (nts l) HLN.out rfl HS0.out ?_)
          | (refine wpList_store_u8s i55 rfl _ _ rfl (w.heap.size + 1) (nts l) HLN.out rfl (by exact rfl) _ (by simp [u8s]) HR0.out ?_; intro w4 hb4 hbut4))
        exact bodyPost_ret (results_cell_row rfl _ _ (w.heap.size + 1) _ _ _ _ rfl hb4 Try.underlying80 rfl (by rw [i55]; simp [u8s, HLN.out])) rfl ⟨by rw [HRE.out], HFIN.out _ hbut4⟩
      · have h8' : ((n : Int) == 8) = false := by simp; omega
        clear h8 h88 hr1 h0
        go_enter Try.func60, Try.ntmps60
        go_wp2_with (first
          | (refine wpList_load_u8s Try.underlying80 i55 rfl _ rfl w.heap.size (nts l) HLN.out rfl HS0.out ?_)
          | (refine wpList_store_u8s i55 rfl _ _ rfl (w.heap.size + 1) (nts l) HLN.out rfl (by exact rfl) _ (by simp [u8s]) HR0.out ?_; intro w4 hb4 hbut4))
        exact bodyPost_ret (results_cell_row rfl _ _ (w.heap.size + 1) _ _ _ _ rfl hb4 Try.underlying80 rfl (by rw [i55]; simp [u8s, HLN.out])) rfl ⟨by rw [HRE.out], HFIN.out _ hbut4⟩
end Go.Proofs.Ythmjdebnjcopnaa
