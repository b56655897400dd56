/- row: Num. -/
import Derived.Test.YtffiphdbjohilaaRowTake
import Derived.Test.YtffiphdbjohilaaVals
import Derived.Laws.BitsAllLaws
namespace Go.Proofs.Ytffiphdbjohilaa
open Go.RowKit

theorem num1_ok {w : World} {r : Nat} {og : Option Nat} {zs : List Nat} {f : Int} (bs br bn : Nat) (s : Nat) (h : Rd w r og zs f) (hs1 : 1 ≤ s) (hs8 : s ≤ 8) (hs : s ≤ zs.length)
    (cs : w.cell? ⟨bs, 0, none⟩ = some (.int .i64 s)) (cr : w.cell? ⟨br, 0, none⟩ = some (.pointer (some ⟨r, 0, none⟩))) (cn : w.heap[bn]? = some (.cells #[.int .u64 0] 37 (0, 0))) (hn : bn ≠ r) (hg : ∀ g, og = some g → g ≠ bn) :
    Calls Try.prog 35 #[.pointer (some ⟨bs, 0, none⟩), .pointer (some ⟨br, 0, none⟩), .pointer (some ⟨bn, 0, none⟩)] w fun e w' => e = .returned (.tuple #[]) ∧
      w'.heap[bn]? = some (.cells #[.int .u64 (val (zs.take s) : Nat)] 37 (0, 0)) ∧ Rd w' r og (zs.drop s) f ∧ But (fun k => k = r ∨ k = bn) w w' := by
  have HN : Hid (Calls Try.prog 36 #[.pointer (some ⟨r, 0, none⟩), .int .i64 s] w fun e w' => ∃ v, e = .returned v ∧ Bs w' v (zs.take s) ∧ (∀ k, v.ownBlock = some k → og = some k) ∧ Rd w' r og (zs.drop s) f ∧ But (· = r) w w') := next_ok h s hs
  have HI : Hid (Calls Try.prog 32 #[.int .i64 s] w fun e w' => e = .returned (.bool true) ∧ w' = w) := by
    have := isSize_any s w
    rw [decide_eq_true (by omega)] at this
    exact this
  have CN : Hid (w.heap[bn]? = some (.cells #[.int .u64 0] 37 (0, 0))) := cn
  have hlt := lt_of_block cn
  have HL : Hid ((zs.take s).length = s) := by show _ = _; rw [List.length_take]; omega
  clear h cn hs
  generalize zs.take s = ys at *
  generalize zs.drop s = ds at *
  go_enter Try.func35, Try.ntmps35
  go_wp2_with fail
  refine Calls.mono HI.out ?_
  rintro e w1 ⟨rfl, hw1⟩
  have hw2 := hw1.symm
  subst hw2
  go_wp2_with fail
  refine Calls.mono HN.out ?_
  rintro e w1 ⟨v, rfl, hv, hvo, hrd, hbut⟩
  obtain ⟨hb, _, ⟨rfl, _⟩ | ⟨_, b, off, cap, rfl, hcap, hblk, hcell⟩⟩ := hv
  · have := HL.out; simp at this; omega
  rw [HL.out] at hcap hcell hvo ⊢
  have hbn : b ≠ bn := hg b (hvo b rfl)
  have t1 : w1.heap[bn]? = some (.cells #[.int .u64 0] 37 (0, 0)) := (hbut.block bn hlt hn).trans CN.out
  have HC : Hid (∀ i, i < s → w1.cell? ⟨b, off + i, none⟩ = some (.int .u8 (ys.getD i 0 : Nat))) := hcell
  have HB : Hid (∀ z ∈ ys, z < 256) := hb
  have HR : Hid (Rd w1 r og ds f) := hrd
  have HT : Hid (w1.heap[bn]? = some (.cells #[.int .u64 0] 37 (0, 0))) := t1
  clear hcell hb hrd t1 hvo
  go_wp2
  go_loopw [4, 13] (fun _ i wr => ∃ k : Nat, k ≤ s ∧ i = .int .i64 k ∧ wr.heap[bn]? = some (.cells #[.int .u64 (val (ys.take k) : Nat)] 37 (0, 0)) ∧ But (· = bn) w1 wr) (fun _ i _ => s - (intOf i).toNat)
  case atStart => exact ⟨0, Nat.zero_le _, rfl, HT.out, But.refl _ _⟩
  case round =>
    obtain ⟨k, hk, rfl, ht, hbw⟩ := hrel
    by_cases hlt2 : k < s
    · obtain ⟨z, hz⟩ : ∃ z, ys.getD k 0 = z := ⟨_, rfl⟩
      have hkl : k < ys.length := by rw [HL.out]; exact hlt2
      have f1 : wr.cell? ⟨b, off + k, none⟩ = some (.int .u8 (z : Nat)) := by rw [← hz]; exact (World.cell?_of_block (hbw.block b hblk hbn)).trans (HC.out k hlt2)
      have hz1 : z < 256 := by rw [← hz]; exact HB.out _ (getD_mem ys k hkl)
      have HV : Hid (val (ys.take (k + 1)) = 256 * val (ys.take k) + z) := by rw [← hz]; exact val_next ys k hkl
      have ha : val (ys.take k) < 72057594037927936 := by
        have h1 := val_lt ys HB.out k (by omega)
        have h2 : 256 ^ k ≤ 256 ^ 7 := Nat.pow_le_pow_right (by decide) (by omega)
        omega
      clear hz
      generalize val (ys.take k) = a at *
      have c1 := cell_of_one ht
      have c2 := free_of_one ht
      have hor := shl_or a z ha hz1
      have HT2 : Hid (wr.heap[bn]? = some (.cells #[.int .u64 (a : Nat)] 37 (0, 0))) := ht
      clear ht
      go_wp2
      refine ⟨⟨k + 1, by omega, by go_num, ?_, hbw.setCell (p := ⟨bn, 0, none⟩) (fun _ => rfl) _⟩, by simp [intOf]; omega⟩
      rw [one_setCell HT2.out, HV.out]; simp
    · have hkn : k = s := by omega
      subst hkn
      have HT2 : Hid (wr.heap[bn]? = some (.cells #[.int .u64 (val ys : Nat)] 37 (0, 0))) := by
        show _ = _
        rw [ht, List.take_of_length_le (by rw [HL.out]; omega)]
      clear ht
      go_wp2
      go_end0
      exact ⟨rfl, HT2.out, HR.out.but hbw (fun e => hn e.symm) hg, But.then (hbut.mono (fun _ _ e => .inl e)) hbw (fun _ _ e => .inr e)⟩
theorem num1_arg {w : World} (bs : Nat) (q p : Value) (s : Int) (hs : ¬ (1 ≤ s ∧ s ≤ 8)) (cs : w.cell? ⟨bs, 0, none⟩ = some (.int .i64 s)) :
    Calls Try.prog 35 #[.pointer (some ⟨bs, 0, none⟩), q, p] w fun e w' => e = .panicked [{ v := .iface 24 (.int .i64 1), recovered := false }] ∧ w' = w := by
  have HI : Hid (Calls Try.prog 32 #[.int .i64 s] w fun e w' => e = .returned (.bool false) ∧ w' = w) := by
    have := isSize_any s w
    rw [decide_eq_false hs] at this
    exact this
  clear hs
  go_enter Try.func35, Try.ntmps35
  go_wp2_with fail
  refine Calls.mono HI.out ?_
  rintro e w1 ⟨rfl, hw1⟩
  have hw2 := hw1.symm
  subst hw2
  go_wp2
  exact ⟨rfl, rfl, rfl⟩
theorem num1_no {w : World} {r : Nat} {og : Option Nat} {zs : List Nat} {f : Int} (bs br : Nat) (p : Value) (s : Int) (h : Rd w r og zs f) (h8 : 1 ≤ s ∧ s ≤ 8) (hn : (zs.length : Int) < s)
    (cs : w.cell? ⟨bs, 0, none⟩ = some (.int .i64 s)) (cr : w.cell? ⟨br, 0, none⟩ = some (.pointer (some ⟨r, 0, none⟩))) :
    Calls Try.prog 35 #[.pointer (some ⟨bs, 0, none⟩), .pointer (some ⟨br, 0, none⟩), p] w fun e w' => e = .panicked [{ v := .iface 24 (.int .i64 2), recovered := false }] ∧ w' = w := by
  have HI : Hid (Calls Try.prog 32 #[.int .i64 s] w fun e w' => e = .returned (.bool true) ∧ w' = w) := by
    have := isSize_any s w
    rw [decide_eq_true h8] at this
    exact this
  have HN : Hid (Calls Try.prog 36 #[.pointer (some ⟨r, 0, none⟩), .int .i64 s] w fun e w' => e = .panicked [{ v := .iface 24 (.int .i64 2), recovered := false }] ∧ w' = w) := next_no h s hn
  clear h hn h8
  go_enter Try.func35, Try.ntmps35
  go_wp2_with fail
  refine Calls.mono HI.out ?_
  rintro e w1 ⟨rfl, hw1⟩
  have hw2 := hw1.symm
  subst hw2
  go_wp2_with fail
  refine Calls.mono HN.out ?_
  rintro e w1 ⟨rfl, hw1⟩
  have hw2 := hw1.symm
  subst hw2
  go_wp2
  exact ⟨rfl, rfl, rfl⟩

/-- The three variables that Num's step is handed. -/
def counted (w : World) (p : Option Addr) (n : Int) : World := ((w.alloc (.cells #[.pointer p] 53)).alloc (.cells #[.int .i64 n] 3)).alloc (.cells #[.int .u64 0] 37)
theorem counted_below (w : World) (p : Option Addr) (n : Int) : Below w.heap.size w (counted w p n) := by
  refine (((Below.refl _ _).alloc (Nat.le_refl _) _).alloc ?_ _).alloc ?_ _ <;> simp <;> omega
theorem counted_size (w : World) (p : Option Addr) (n : Int) : (counted w p n).heap.size = w.heap.size + 3 := by simp [counted]
theorem counted_at (w : World) (p : Option Addr) (n : Int) : (counted w p n).heap[w.heap.size + 2]? = some (.cells #[.int .u64 0] 37 (0, 0)) := by
  have := heap_alloc_new ((w.alloc (.cells #[.pointer p] 53)).alloc (.cells #[.int .i64 n] 3)) (.cells #[.int .u64 0] 37)
  simpa [counted] using this

theorem num_faulty {w : World} {r : Nat} {og : Option Nat} {zs : List Nat} {f : Int} (h : Rd w r og zs f) (hf : f ≠ 0) (n : Int) :
    Calls Try.prog 31 #[.pointer (some ⟨r, 0, none⟩), .int .i64 n] w fun e w' => e = .returned (.int .u64 0) ∧ Below w.heap.size w w' := by
  have hmf : ∀ (fn : Fn) (first cap : Array Value) (w : World), (Instr.makeFunc fn first cap).run Try.prog w = .ok (.func fn first cap) w := fun _ _ _ _ => rfl
  have hb := counted_below w (some ⟨r, 0, none⟩) n
  have HA : Hid (∀ fv, Calls Try.prog 34 #[.pointer (some ⟨r, 0, none⟩), fv] (counted w (some ⟨r, 0, none⟩) n) fun e w' => e = .returned (.tuple #[]) ∧ Below (counted w (some ⟨r, 0, none⟩) n).heap.size (counted w (some ⟨r, 0, none⟩) n) w') := fun fv => attempt_faulty (h.below hb) hf fv
  have ht := counted_at w (some ⟨r, 0, none⟩) n
  have hs := counted_size w (some ⟨r, 0, none⟩) n
  clear h
  unfold counted at HA hb ht hs
  go_enter Try.func31, Try.ntmps31
  go_wp2_with fail
  refine Calls.mono (HA.out _) ?_
  rintro e w1 ⟨rfl, hb1⟩
  have hc : w1.cell? ⟨w.heap.size + 2, 0, none⟩ = some (.int .u64 0) := cell_of_one ((hb1.block _ (by rw [hs]; omega)).trans ht)
  go_wp2
  go_ret
  exact ⟨rfl, hb.trans (hb1.mono (by rw [hs]; omega))⟩
theorem num_nil (w : World) (n : Int) :
    Calls Try.prog 31 #[.pointer none, .int .i64 n] w fun e w' => e = .returned (.int .u64 0) ∧ Below w.heap.size w w' := by
  have hmf : ∀ (fn : Fn) (first cap : Array Value) (w : World), (Instr.makeFunc fn first cap).run Try.prog w = .ok (.func fn first cap) w := fun _ _ _ _ => rfl
  have hb := counted_below w none n
  have ht := counted_at w none n
  have hs := counted_size w none n
  unfold counted at hb ht hs
  go_enter Try.func31, Try.ntmps31
  go_wp2_with fail
  refine Calls.mono (attempt_nil _ _) ?_
  rintro e w1 ⟨rfl, hb1⟩
  have hc : w1.cell? ⟨w.heap.size + 2, 0, none⟩ = some (.int .u64 0) := cell_of_one ((hb1.block _ (by rw [hs]; omega)).trans ht)
  go_wp2
  go_ret
  exact ⟨rfl, hb.trans (hb1.mono (by rw [hs]; omega))⟩
theorem num_bad {w : World} {r : Nat} {og : Option Nat} {zs : List Nat} (h : Rd w r og zs 0) (n c : Int) (hn : (¬ (1 ≤ n ∧ n ≤ 8) ∧ c = 1) ∨ ((1 ≤ n ∧ n ≤ 8) ∧ (zs.length : Int) < n ∧ c = 2)) :
    Calls Try.prog 31 #[.pointer (some ⟨r, 0, none⟩), .int .i64 n] w fun e w' => e = .returned (.int .u64 0) ∧ Rd w' r og [] c ∧ But (· = r) w w' := by
  have hmf : ∀ (fn : Fn) (first cap : Array Value) (w : World), (Instr.makeFunc fn first cap).run Try.prog w = .ok (.func fn first cap) w := fun _ _ _ _ => rfl
  have hb := counted_below w (some ⟨r, 0, none⟩) n
  have h3 := h.below hb
  have hlt := h.lt
  have hs := counted_size w (some ⟨r, 0, none⟩) n
  have ht := counted_at w (some ⟨r, 0, none⟩) n
  have cn : ((counted w (some ⟨r, 0, none⟩) n).alloc (.cells #[.pointer (some ⟨r, 0, none⟩)] 53)).cell? ⟨w.heap.size + 1, 0, none⟩ = some (.int .i64 n) := by simp [counted, go_sem]
  have cr : ((counted w (some ⟨r, 0, none⟩) n).alloc (.cells #[.pointer (some ⟨r, 0, none⟩)] 53)).cell? ⟨w.heap.size, 0, none⟩ = some (.pointer (some ⟨r, 0, none⟩)) := by simp [counted, go_sem]
  have hb4 : Below (counted w (some ⟨r, 0, none⟩) n).heap.size (counted w (some ⟨r, 0, none⟩) n) ((counted w (some ⟨r, 0, none⟩) n).alloc (.cells #[.pointer (some ⟨r, 0, none⟩)] 53)) := (Below.refl _ _).alloc (Nat.le_refl _) _
  have HA : Hid (Calls Try.prog 34 #[.pointer (some ⟨r, 0, none⟩), .func (.func 35) #[] #[.pointer (some ⟨w.heap.size + 1, 0, none⟩), .pointer (some ⟨w.heap.size, 0, none⟩), .pointer (some ⟨w.heap.size + 2, 0, none⟩)]] (counted w (some ⟨r, 0, none⟩) n) fun e w' => e = .returned (.tuple #[]) ∧ w' = down ((counted w (some ⟨r, 0, none⟩) n).alloc (.cells #[.pointer (some ⟨r, 0, none⟩)] 53)) r c) := by
    refine attempt_num_not h3 _ _ _ c ?_
    rcases hn with ⟨hn, rfl⟩ | ⟨h8, hn, rfl⟩
    · exact num1_arg _ _ _ n hn cn
    · exact num1_no _ _ _ n (h3.below hb4) h8 hn cn cr
  obtain ⟨hrd, hbut⟩ := (h3.below hb4).down c
  have hbut' : But (· = r) w (down ((counted w (some ⟨r, 0, none⟩) n).alloc (.cells #[.pointer (some ⟨r, 0, none⟩)] 53)) r c) :=
    But.then (But.of (hb.trans (hb4.mono (by rw [hs]; omega)))) hbut (fun _ _ e => e)
  have hc : (down ((counted w (some ⟨r, 0, none⟩) n).alloc (.cells #[.pointer (some ⟨r, 0, none⟩)] 53)) r c).cell? ⟨w.heap.size + 2, 0, none⟩ = some (.int .u64 0) :=
    cell_of_one ((hbut.block _ (by rw [heap_size_alloc, hs]; omega) (by omega)).trans ((hb4.block _ (by rw [hs]; omega)).trans ht))
  clear h h3 ht hb hb4 hbut cn cr hn
  have HR : Hid (Rd (down ((counted w (some ⟨r, 0, none⟩) n).alloc (.cells #[.pointer (some ⟨r, 0, none⟩)] 53)) r c) r og [] c) := hrd
  have HB : Hid (But (· = r) w (down ((counted w (some ⟨r, 0, none⟩) n).alloc (.cells #[.pointer (some ⟨r, 0, none⟩)] 53)) r c)) := hbut'
  have HC : Hid ((down ((counted w (some ⟨r, 0, none⟩) n).alloc (.cells #[.pointer (some ⟨r, 0, none⟩)] 53)) r c).cell? ⟨w.heap.size + 2, 0, none⟩ = some (.int .u64 0)) := hc
  clear hrd hbut' hc hs
  generalize down ((counted w (some ⟨r, 0, none⟩) n).alloc (.cells #[.pointer (some ⟨r, 0, none⟩)] 53)) r c = W at *
  unfold counted at HA
  go_enter Try.func31, Try.ntmps31
  go_wp2_with fail
  refine Calls.mono HA.out ?_
  rintro e w1 ⟨rfl, hw1⟩
  have hw2 := hw1.symm
  subst hw2
  have hc := HC.out
  go_wp2
  go_ret
  exact ⟨rfl, HR.out, HB.out⟩
theorem num_ok {w : World} {r : Nat} {og : Option Nat} {zs : List Nat} (h : Rd w r og zs 0) (n : Nat) (h1 : 1 ≤ n) (h8 : n ≤ 8) (hn : n ≤ zs.length) :
    Calls Try.prog 31 #[.pointer (some ⟨r, 0, none⟩), .int .i64 n] w fun e w' => e = .returned (.int .u64 (val (zs.take n) : Nat)) ∧ Rd w' r og (zs.drop n) 0 ∧ But (· = r) w w' := by
  have hmf : ∀ (fn : Fn) (first cap : Array Value) (w : World), (Instr.makeFunc fn first cap).run Try.prog w = .ok (.func fn first cap) w := fun _ _ _ _ => rfl
  have hb := counted_below w (some ⟨r, 0, none⟩) n
  have h3 := h.below hb
  have hlt := h.lt
  have hog := h.og
  have hs := counted_size w (some ⟨r, 0, none⟩) n
  have ht := counted_at w (some ⟨r, 0, none⟩) n
  have cn : ((counted w (some ⟨r, 0, none⟩) n).alloc (.cells #[.pointer (some ⟨r, 0, none⟩)] 53)).cell? ⟨w.heap.size + 1, 0, none⟩ = some (.int .i64 n) := by simp [counted, go_sem]
  have cr : ((counted w (some ⟨r, 0, none⟩) n).alloc (.cells #[.pointer (some ⟨r, 0, none⟩)] 53)).cell? ⟨w.heap.size, 0, none⟩ = some (.pointer (some ⟨r, 0, none⟩)) := by simp [counted, go_sem]
  have hb4 : Below (counted w (some ⟨r, 0, none⟩) n).heap.size (counted w (some ⟨r, 0, none⟩) n) ((counted w (some ⟨r, 0, none⟩) n).alloc (.cells #[.pointer (some ⟨r, 0, none⟩)] 53)) := (Below.refl _ _).alloc (Nat.le_refl _) _
  have HA : Hid (Calls Try.prog 34 #[.pointer (some ⟨r, 0, none⟩), .func (.func 35) #[] #[.pointer (some ⟨w.heap.size + 1, 0, none⟩), .pointer (some ⟨w.heap.size, 0, none⟩), .pointer (some ⟨w.heap.size + 2, 0, none⟩)]] (counted w (some ⟨r, 0, none⟩) n) fun e w' => e = .returned (.tuple #[]) ∧
      w'.heap[w.heap.size + 2]? = some (.cells #[.int .u64 (val (zs.take n) : Nat)] 37 (0, 0)) ∧ Rd w' r og (zs.drop n) 0 ∧ But (· = r) w w') := by
    refine attempt_num h3 _ _ _ ?_
    refine (num1_ok (w.heap.size + 1) w.heap.size (w.heap.size + 2) n (h3.below hb4) h1 h8 hn cn cr ((hb4.block _ (by rw [hs]; omega)).trans ht) (by omega) (fun g e => by have := (hog g e).2; omega)).mono ?_
    rintro e w' ⟨he, hv, hrd, hbut⟩
    refine ⟨he, hv, hrd, ?_⟩
    exact But.then (But.of (hb.trans (hb4.mono (by rw [hs]; omega)))) hbut (fun i hi e => e.resolve_right (by omega))
  clear h h3 ht hb hb4 cn cr hn hs hog
  unfold counted at HA
  go_enter Try.func31, Try.ntmps31
  go_wp2_with fail
  refine Calls.mono HA.out ?_
  rintro e w1 ⟨rfl, hv, hrd, hbut⟩
  have hc := cell_of_one hv
  go_wp2
  go_ret
  exact ⟨rfl, hrd, hbut⟩
end Go.Proofs.Ytffiphdbjohilaa
