/- The reference's reader: Num, Take, Left, End. -/
import Derived.Test.YtgffaekhhhkjcaaRowRefPut
import Derived.Deep.RegionWith
import Derived.BigRegion
namespace Go.Proofs.Ytgffaekhhhkjcaa
open Go.RowKit

/-- The reference's reader at block x: the bytes bv, the place, the fault. -/
def Xr (w : World) (x : Nat) (bv : Value) (at' : Nat) (f : Int) : Prop := w.heap[x]? = some (.cells #[bv, .int .i64 at', .int .i64 f] 43 (0, 0))
theorem Xr.cells {w : World} {x : Nat} {bv : Value} {p : Nat} {f : Int} (h : Xr w x bv p f) : w.cell? ⟨x, 0, none⟩ = some bv ∧ w.cell? ⟨x, 1, none⟩ = some (.int .i64 p) ∧ w.cell? ⟨x, 2, none⟩ = some (.int .i64 f) ∧ (∀ j, w.frozen? ⟨x, j, none⟩ = false) := by
  unfold Xr at h
  refine ⟨?_, ?_, ?_, fun j => frozen_of_row w x j _ _ h⟩
  · rw [cell_of_row w x 0 _ _ _ h]; rfl
  · rw [cell_of_row w x 1 _ _ _ h]; rfl
  · rw [cell_of_row w x 2 _ _ _ h]; rfl
theorem Xr.but {R : Nat → Prop} {w w' : World} {x : Nat} {bv : Value} {p : Nat} {f : Int} (h : Xr w x bv p f) (k : But R w w') (hr : ¬ R x) : Xr w' x bv p f := (k.block x (lt_of_block h) hr).trans h
theorem Xr.fault {w : World} {x : Nat} {bv : Value} {p : Nat} {f : Int} (h : Xr w x bv p f) (c : Int) : Xr (w.setCell ⟨x, 2, none⟩ (.int .i64 c)) x bv p c := by
  unfold Xr at h ⊢; rw [heap_setCell_same w x 2 _ _ _ h]; rfl
theorem Xr.move {w : World} {x : Nat} {bv : Value} {p : Nat} {f : Int} (h : Xr w x bv p f) (q : Nat) : Xr (w.setCell ⟨x, 1, none⟩ (.int .i64 q)) x bv q f := by
  unfold Xr at h ⊢; rw [heap_setCell_same w x 1 _ _ _ h]; rfl

theorem refLeft_bad {w : World} {x : Nat} {bv : Value} {p : Nat} {f : Int} (h : Xr w x bv p f) (hf : f ≠ 0) :
    Calls Try.prog 22 #[.pointer (some ⟨x, 0, none⟩)] w fun e w' => e = .returned (.int .i64 0) ∧ ∃ d, w' = w.drewN d := by
  obtain ⟨c0, c1, c2, _⟩ := h.cells
  clear h
  go_enter Try.func22, Try.ntmps22
  go_wp2
  go_ret
  exact ⟨rfl, 0, rfl⟩
theorem refLeft_ok {w : World} {x : Nat} {ao : Option Addr} {l cap : Nat} {p : Nat} (h : Xr w x (.slice ao l cap) p 0) (hp : p ≤ l) (hl : l ≤ 140737488351232) :
    Calls Try.prog 22 #[.pointer (some ⟨x, 0, none⟩)] w fun e w' => e = .returned (.int .i64 (l - p : Nat)) ∧ ∃ d, w' = w.drewN d := by
  obtain ⟨c0, c1, c2, _⟩ := h.cells
  clear h
  go_enter Try.func22, Try.ntmps22
  go_wp2
  go_quiet (fail)
  go_wp2
  go_ret
  refine ⟨?_, _, rfl⟩
  show _ = Ending.returned (Value.int .i64 ((l - p : Nat) : Int))
  rw [Int.ofNat_sub hp]; rfl
theorem refEnd_bad {w : World} {x : Nat} {bv : Value} {p : Nat} {f : Int} (h : Xr w x bv p f) (hf : f ≠ 0) :
    Calls Try.prog 24 #[.pointer (some ⟨x, 0, none⟩)] w fun e w' => e = .returned (.int .i64 f) ∧ ∃ d, w' = w.drewN d := by
  obtain ⟨c0, c1, c2, _⟩ := h.cells
  have hfb : (f == 0) = false := by simp [hf]
  clear h
  go_enter Try.func24, Try.ntmps24
  go_wp2
  go_ret
  exact ⟨rfl, 0, rfl⟩
theorem refEnd_ok {w : World} {x : Nat} {ao : Option Addr} {l cap : Nat} {p : Nat} (h : Xr w x (.slice ao l cap) p 0) (hp : p ≤ l) (hl : l ≤ 140737488351232) :
    Calls Try.prog 24 #[.pointer (some ⟨x, 0, none⟩)] w fun e w' => e = .returned (.int .i64 (if l - p = 0 then 0 else 4)) ∧ ∃ d, w' = w.drewN d := by
  have HL : Hid (Calls Try.prog 22 #[.pointer (some ⟨x, 0, none⟩)] w fun e w' => e = .returned (.int .i64 (l - p : Nat)) ∧ ∃ d, w' = w.drewN d) := refLeft_ok h hp hl
  obtain ⟨c0, c1, c2, _⟩ := h.cells
  clear h
  generalize l - p = m at *
  by_cases hm : m = 0
  · rw [if_pos hm]
    subst hm
    go_enter Try.func24, Try.ntmps24
    go_wp2_with (go_at_call 22; refine Calls.mono HL.out ?_; rintro e w' ⟨rfl, d, rfl⟩)
    go_ret
    exact ⟨rfl, _, rfl⟩
  · rw [if_neg hm]
    have hm' : 0 < (m : Int) := by omega
    go_enter Try.func24, Try.ntmps24
    go_wp2_with (go_at_call 22; refine Calls.mono HL.out ?_; rintro e w' ⟨rfl, d, rfl⟩)
    go_ret
    exact ⟨rfl, _, rfl⟩

theorem refNum_nil (ao : Option Addr) (cap : Nat) (w : World) : Calls Try.prog 20 #[.slice ao 0 cap] w fun e w' => e = .returned (.int .u64 0) ∧ w' = w := by
  go_enter Try.func20, Try.ntmps20
  go_wp2
  refine wp_loop_rounds 1 ?_
  rw [rounds_succ]
  go_wp2
  go_ret
  exact ⟨rfl, rfl⟩
theorem refNum_any {v : Value} {zs : List Nat} {w : World} (hv : Bs w v zs) (h8 : zs.length ≤ 8) : Calls Try.prog 20 #[v] w fun e w' => e = .returned (.int .u64 (val zs : Nat)) ∧ w' = w := by
  obtain ⟨hb, _, hcase⟩ := hv
  rcases hcase with ⟨rfl, hc⟩ | ⟨h0, b, off, cap, rfl, hcap, hblk, hcell⟩
  · obtain ⟨a0, c0, rfl⟩ : ∃ ao cap, v = .slice ao 0 cap := by rcases hc with rfl | ⟨a, cap, rfl⟩ <;> exact ⟨_, _, rfl⟩
    exact refNum_nil a0 c0 w
  · obtain ⟨n, hn⟩ : ∃ n, zs.length = n := ⟨_, rfl⟩
    rw [hn] at h8 h0 hcap hcell ⊢
    have HN : Hid (zs.length = n) := hn
    have HC : Hid (∀ i, i < n → w.cell? ⟨b, off + i, none⟩ = some (.int .u8 (zs.getD i 0 : Nat))) := hcell
    have HB : Hid (∀ z ∈ zs, z < 256) := hb
    clear hn hcell hb
    go_enter Try.func20, Try.ntmps20
    go_wp2
    go_loop [3, 4] (fun a i => ∃ k : Nat, k ≤ n ∧ i = .int .i64 k ∧ a = .int .u64 (val (zs.take k) : Nat)) (fun _ i => n - (intOf i).toNat)
    case atStart => exact ⟨0, Nat.zero_le _, rfl, rfl⟩
    case round =>
      obtain ⟨k, hk, rfl, rfl⟩ := hrel
      by_cases hlt : k < n
      · obtain ⟨z, hz⟩ : ∃ z, zs.getD k 0 = z := ⟨_, rfl⟩
        have hkl : k < zs.length := by rw [HN.out]; exact hlt
        have f1 : w.cell? ⟨b, off + k, none⟩ = some (.int .u8 (z : Nat)) := by rw [← hz]; exact HC.out k hlt
        have hz1 : z < 256 := by rw [← hz]; exact HB.out _ (getD_mem zs k hkl)
        have HV : Hid (val (zs.take (k + 1)) = 256 * val (zs.take k) + z) := by rw [← hz]; exact val_next zs k hkl
        have ha : val (zs.take k) < 72057594037927936 := by
          have h1 := val_lt zs HB.out k (by omega)
          have h2 : 256 ^ k ≤ 256 ^ 7 := Nat.pow_le_pow_right (by decide) (by omega)
          omega
        clear hz
        generalize val (zs.take k) = a at *
        go_wp2
        go_round
        case rel => exact ⟨k + 1, by omega, by go_num, by rw [HV.out]; simp⟩
        case measure => simp [intOf]; omega
      · have hkn : k = n := by omega
        subst hkn
        have e : zs.take k = zs := List.take_of_length_le (by rw [HN.out]; omega)
        rw [e]
        go_wp2
        go_ret
        exact ⟨rfl, rfl⟩

theorem refTake_faulty {w : World} {x : Nat} {bv : Value} {p : Nat} {f : Int} (h : Xr w x bv p f) (hf : f ≠ 0) (n : Int) (right : Bool) :
    Calls Try.prog 21 #[.pointer (some ⟨x, 0, none⟩), .int .i64 n, .bool right] w fun e w' => e = .returned (.slice none 0 0) ∧ Xr w' x bv p f ∧ But (· = x) w w' := by
  obtain ⟨c0, c1, c2, _⟩ := h.cells
  have HX : Hid (Xr w x bv p f) := h
  have hfb : (f == 0) = false := by simp [hf]
  have hfc : decide (f = 0) = false := by simp [hf]
  clear h
  go_enter Try.func21, Try.ntmps21
  go_wp2
  go_quiet (fail)
  go_wp2
  go_ret
  exact ⟨rfl, HX.out.but (R := fun _ => False) (But.of (below_drewN (Below.refl _ _) _)) (fun h => h), But.of (below_drewN (Below.refl _ _) _)⟩
theorem refTake_arg {w : World} {x : Nat} {bv : Value} {p : Nat} (h : Xr w x bv p 0) (n : Int) :
    Calls Try.prog 21 #[.pointer (some ⟨x, 0, none⟩), .int .i64 n, .bool false] w fun e w' => e = .returned (.slice none 0 0) ∧ Xr w' x bv p 1 ∧ But (· = x) w w' := by
  obtain ⟨c0, c1, c2, hz⟩ := h.cells
  have z2 := hz 2
  have HX : Hid (Xr (w.setCell ⟨x, 2, none⟩ (.int .i64 1)) x bv p 1) := h.fault 1
  have HB : Hid (But (· = x) w (w.setCell ⟨x, 2, none⟩ (.int .i64 1))) := (But.refl (· = x) w).setCell (p := ⟨x, 2, none⟩) (fun _ => rfl) _
  clear h hz
  go_enter Try.func21, Try.ntmps21
  go_wp2
  go_quiet (fail)
  go_wp2
  go_ret
  exact ⟨rfl, HX.out.but (R := fun _ => False) (But.of (below_drewN (Below.refl _ _) _)) (fun h => h), HB.out.trans (But.of (below_drewN (Below.refl _ _) _))⟩
theorem refTake_short {w : World} {x : Nat} {ao : Option Addr} {l cap : Nat} {p : Nat} (h : Xr w x (.slice ao l cap) p 0) (n : Int) (hp : p ≤ l) (hl : l ≤ 140737488351232) (hn : ((l - p : Nat) : Int) < n) :
    Calls Try.prog 21 #[.pointer (some ⟨x, 0, none⟩), .int .i64 n, .bool true] w fun e w' => e = .returned (.slice none 0 0) ∧ Xr w' x (.slice ao l cap) p 2 ∧ But (· = x) w w' := by
  obtain ⟨c0, c1, c2, hz⟩ := h.cells
  have z2 := hz 2
  have HX : Hid (Xr (w.setCell ⟨x, 2, none⟩ (.int .i64 2)) x (.slice ao l cap) p 2) := h.fault 2
  have HB : Hid (But (· = x) w (w.setCell ⟨x, 2, none⟩ (.int .i64 2))) := (But.refl (· = x) w).setCell (p := ⟨x, 2, none⟩) (fun _ => rfl) _
  have hn' : (l : Int) - p < n := by omega
  clear h hz
  go_enter Try.func21, Try.ntmps21
  go_wp2
  go_quiet (fail)
  go_wp2
  go_ret
  exact ⟨rfl, HX.out.but (R := fun _ => False) (But.of (below_drewN (Below.refl _ _) _)) (fun h => h), HB.out.trans (But.of (below_drewN (Below.refl _ _) _))⟩

set_option maxHeartbeats 1000000 in
theorem refTake_some {w : World} {x : Nat} {a : Addr} {l cap : Nat} {p : Nat} {ys : List Nat} (h : Xr w x (.slice (some a) l cap) p 0) (n : Nat) (hp : p + n ≤ l) (hl : l ≤ 140737488351232) (hc : l ≤ cap) (hpc : p < cap)
    (hy : Bs w (.slice (some (a.add p)) n (cap - p)) ys) :
    Calls Try.prog 21 #[.pointer (some ⟨x, 0, none⟩), .int .i64 n, .bool true] w fun e w' => ∃ v, e = .returned v ∧ Bs w' v ys ∧ (∀ j, v.ownBlock = some j → w.heap.size ≤ j) ∧ Xr w' x (.slice (some a) l cap) (p + n) 0 ∧ But (· = x) w w' := by
  obtain ⟨c0, c1, c2, hz⟩ := h.cells
  have z1 := hz 1
  have HX : Hid (Xr w x (.slice (some a) l cap) p 0) := h
  have hyl : ys.length ≤ 140737488355328 := by
    obtain ⟨_, _, e, _, _⟩ := hy.gen
    simp only [Value.slice.injEq] at e
    omega
  have HC : Hid (∀ d, Calls Try.prog 26 #[.slice (some (a.add p)) n (cap - p)] (w.drewN d) fun e w' => ∃ v', e = .returned v' ∧ Ow w' w.heap.size v' ys ∧ Below w.heap.size w w') := fun d =>
    (copy_any (hy.drewN d) hyl).mono fun e w' ⟨v', he, ho, hb⟩ => ⟨v', he, ho, (below_drewN (Below.refl _ _) d).trans hb⟩
  have hn' : ¬ (l : Int) - p < n := by omega
  have hwr : IntKind.i64.wrap ((p : Int) + n) = (p : Int) + n := by rw [IntKind.wrap_i64]; omega
  have q0 : (0 : Int) ≤ (p : Int) + n := by omega
  have qA : (p : Int) + n ≤ (cap : Int) := by omega
  have qD : ¬ cap = p := by omega
  have qT : ((p : Int) + n).toNat = p + n := by omega
  have qB : p ≤ p + n := by omega
  have qS : p + n - p = n := by omega
  clear h hz hy
  go_enter Try.func21, Try.ntmps21
  go_wp2
  go_quiet (fail)
  go_wp2
  go_region_with (go_at_call 26; refine Calls.mono (HC.out _) ?_; rintro e w1 ⟨v1, rfl, hown1, hb1⟩)
  all_goals
    have hx1 : Xr w1 x (.slice (some a) l cap) p 0 := HX.out.but (R := fun _ => False) (But.of hb1) (fun h => h)
    obtain ⟨_, d1, _, dz⟩ := hx1.cells
    have dz1 := dz 1
    obtain ⟨ao1, m1, cap1, rfl⟩ := hown1.slice
    have HGe : Hid (∀ j, (Value.slice ao1 m1 cap1).ownBlock = some j → w.heap.size ≤ j) := fun j e => (hown1.ge j e).1
    have HM : Hid (Xr (w1.setCell ⟨x, 1, none⟩ (.int .i64 (p + n : Nat))) x (.slice (some a) l cap) (p + n) 0) := hx1.move (p + n)
    have HB : Hid (But (· = x) w (w1.setCell ⟨x, 1, none⟩ (.int .i64 (p + n : Nat)))) := (But.of (R := (· = x)) hb1).setCell (p := ⟨x, 1, none⟩) (fun _ => rfl) _
    have HO : Hid (Bs (w1.setCell ⟨x, 1, none⟩ (.int .i64 (p + n : Nat))) (.slice ao1 m1 cap1) ys) := by
      have hge := hown1.ge
      have hxl := lt_of_block HX.out
      refine hown1.bs.but (R := (· = x)) ((But.refl (· = x) w1).setCell (p := ⟨x, 1, none⟩) (fun _ => rfl) _) (fun j e _ h => ?_)
      have := (hge j e).1
      omega
    rw [Int.natCast_add] at HM HB HO
    clear hx1 hown1 hb1 dz HC c0 c1 c2
    go_wp2
    go_ret
    exact ⟨_, rfl, HO.out, HGe.out, HM.out, HB.out⟩
end Go.Proofs.Ytgffaekhhhkjcaa
