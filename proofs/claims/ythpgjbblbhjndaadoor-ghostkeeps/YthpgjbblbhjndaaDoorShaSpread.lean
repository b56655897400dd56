/- The program's spread. -/
import Derived.Test.YthpgjbblbhjndaaDoorShaRot
import Derived.BigRegion
namespace Go.Proofs.YthpgjbblbhjndaaDoor
open Go.RowKit

theorem or4 (x0 x1 x2 x3 : Nat) (h0 : x0 < 256) (h1 : x1 < 256) (h2 : x2 < 256) (h3 : x3 < 256) :
    bits .or .u32 (bits .or .u32 (bits .or .u32 ((x0 : Int) * 16777216) ((x1 : Int) * 65536)) ((x2 : Int) * 256)) (x3 : Int) = ((x0 * 16777216 + x1 * 65536 + x2 * 256 + x3 : Nat) : Int) := by
  have e0 : ((x0 : Int) * 16777216) = ((x0 * 16777216 : Nat) : Int) := by omega
  have e1 : ((x1 : Int) * 65536) = ((x1 * 65536 : Nat) : Int) := by omega
  have e2 : ((x2 : Int) * 256) = ((x2 * 256 : Nat) : Int) := by omega
  have a1 : x0 * 16777216 ||| x1 * 65536 = x0 * 16777216 + x1 * 65536 := by
    have := Nat.two_pow_add_eq_or_of_lt (i := 24) (b := x1 * 65536) (by omega) x0
    rw [Nat.mul_comm] at this; exact this.symm
  have a2 : (x0 * 16777216 + x1 * 65536) ||| x2 * 256 = x0 * 16777216 + x1 * 65536 + x2 * 256 := by
    have := Nat.two_pow_add_eq_or_of_lt (i := 16) (b := x2 * 256) (by omega) (x0 * 256 + x1)
    rw [show 2 ^ 16 * (x0 * 256 + x1) = x0 * 16777216 + x1 * 65536 by omega] at this; exact this.symm
  have a3 : (x0 * 16777216 + x1 * 65536 + x2 * 256) ||| x3 = x0 * 16777216 + x1 * 65536 + x2 * 256 + x3 := by
    have := Nat.two_pow_add_eq_or_of_lt (i := 8) (b := x3) (by omega) (x0 * 65536 + x1 * 256 + x2)
    rw [show 2 ^ 8 * (x0 * 65536 + x1 * 256 + x2) = x0 * 16777216 + x1 * 65536 + x2 * 256 by omega] at this; exact this.symm
  rw [e0, e1, e2, u32_or_nat _ _ (by omega) (by omega), a1, u32_or_nat _ _ (by omega) (by omega), a2, u32_or_nat _ _ (by omega) (by omega), a3]

theorem set_sched (m : Nat → BitVec 32) (t : Nat) (h : t < 64) (y : BitVec 32) (hy : nextw m (sched m t) t = y) : (sched m t ++ List.replicate (64 - t) 0).set t y = sched m (t + 1) ++ List.replicate (64 - (t + 1)) 0 := by
  have e1 : 64 - t = (64 - (t + 1)) + 1 := by omega
  rw [e1, List.replicate_succ, List.set_append_right _ _ (by rw [sched_len]; omega), sched_len, Nat.sub_self, List.set_cons_zero]
  show _ = sched m t ++ [nextw m (sched m t) t] ++ _
  rw [hy, List.append_assoc]; rfl
theorem getD_sched (m : Nat → BitVec 32) (t j : Nat) (h : j < t) : (sched m t ++ List.replicate (64 - t) 0).getD j 0 = (sched m t).getD j 0 := by
  simp [List.getD, List.getElem?_append_left (show j < (sched m t).length by rw [sched_len]; exact h)]
theorem shr3_nt (x : BitVec 32) : (nt x : Int) / (8 : Int) = (nt (x >>> 3) : Int) := shr_nt x 3
theorem shr10_nt (x : BitVec 32) : (nt x : Int) / (1024 : Int) = (nt (x >>> 10) : Int) := shr_nt x 10
theorem Ar.drew {w : World} {g : Nat} {T : TypeId} {l : List (BitVec 32)} (h : Ar w g T l) : Ar w.drew g T l := h

theorem cut64 (g off l : Nat) (i : Int) (hi : i = (l : Int)) (hl : l < 64) (w : World) :
    (Instr.sliceAt 82 (.pointer (some ⟨g, off, none⟩)) (some (.int .i64 i)) none none).run Tryd.prog w = .ok (.slice (some ⟨g, off + l, none⟩) (64 - l) (64 - l)) w := by
  subst hi
  have ha : Tryd.prog.arrayLen 82 = 64 := by kernel_rfl
  have he : Tryd.prog.elem 82 = 5 := by kernel_rfl
  have hu : Tryd.prog.underlying 82 = some (.array (Tryd.prog.arrayLen 82) (Tryd.prog.elem 82)) := by kernel_rfl
  have hs : (sizeOf 5).run Tryd.prog w = .ok 1 w := by kernel_rfl
  rw [run_sliceAt_array_l w _ _ hu .i64 (l : Int) (by omega) (by rw [ha]; omega), he, hs, ha]
  have hne : ¬ (64 = l) := by omega
  simp [Result.andThen, slicedAt, hne, Addr.add]
theorem Ar.new {w : World} {g : Nat} {T : TypeId} {l : List (BitVec 32)} (h : w.heap.size = g) : Ar (w.alloc (.cells (u32s l).toArray T)) g T l := by
  subst h; exact heap_alloc_new _ _

set_option maxRecDepth 100000 in
set_option maxHeartbeats 4000000 in
theorem spread_any {w : World} {g : Nat} {C : Array Value} {T : TypeId} {z : List Nat} (hg : w.heap[g]? = some (.cells C T (0, 0))) (hc : ∀ i, i < 64 → C[8 + i]? = some (.int .u8 (z.getD i 0 : Nat))) (hlt : ∀ i, z.getD i 0 < 256) :
    Calls Tryd.prog 48 #[.pointer (some ⟨g, 8, none⟩)] w fun e w' => e = .returned (.agg (u32s (sched (blkw z 0) 64)).toArray) ∧ But (fun _ => False) w w' := by
  have hi47 : (Tryd.prog.info? 73).map (·.size) = some 64 := by kernel_rfl
  have hgl := lt_of_block hg
  have HG := Hid.mk' hg
  have HC := Hid.mk' hc
  have HLT := Hid.mk' hlt
  clear hg hc hlt
  go_enter Tryd.func48, Tryd.ntmps48
  go_wp2
  have hx0 : Ar (w.alloc (.cells (u32s (List.replicate 64 0)).toArray 73)) w.heap.size 73 (List.replicate 64 0) := heap_alloc_new _ _
  have hx1 : Ar ((w.alloc (.cells (u32s (List.replicate 64 0)).toArray 73)).alloc (.cells (u32s (List.replicate 64 0)).toArray 73)) (w.heap.size + 1) 73 (sched (blkw z 0) 0 ++ List.replicate (64 - 0) 0) := Ar.new (by simp)
  have HX0 := Hid.mk' (hx0.but ((But.refl (fun _ => False) _).alloc (.cells (u32s (List.replicate 64 0)).toArray 73)) (fun h => h))
  have HX1 := Hid.mk' hx1
  have HB0 := Hid.mk' (((But.refl (fun _ => False) w).alloc (.cells (u32s (List.replicate 64 0)).toArray 73)).alloc (.cells (u32s (List.replicate 64 0)).toArray 73))
  clear hx0 hx1
  go_loopw [11] (fun i wr => ∃ t : Nat, t ≤ 16 ∧ i = .int .i64 t ∧ Ar wr (w.heap.size + 1) 73 (sched (blkw z 0) t ++ List.replicate (64 - t) 0) ∧ Ar wr w.heap.size 73 (List.replicate 64 0) ∧ But (fun _ => False) w wr) (fun i _ => 16 - (intOf i).toNat)
  case atStart => exact ⟨0, by decide, rfl, HX1.out, HX0.out, HB0.out⟩
  case round =>
    obtain ⟨t, ht, rfl, har, har0, hbt⟩ := hrel
    have hsz := hbt.size
    have hlen : (sched (blkw z 0) t ++ List.replicate (64 - t) 0).length = 64 := by rw [List.length_append, sched_len, List.length_replicate]; omega
    by_cases h16 : t < 16
    · have f : ∀ j, j < 4 → wr.cell? ⟨g, 8 + 4 * t + j, none⟩ = some (.int .u8 (z.getD (4 * t + j) 0 : Nat)) := fun j hj => by
        rw [cell_of_row wr g _ _ _ _ ((hbt.block g (by omega) (fun h => h)).trans HG.out), Nat.add_assoc]
        exact HC.out _ (by omega)
      have f0 := f 0 (by decide)
      have f1 := f 1 (by decide)
      have f2 := f 2 (by decide)
      have f3 := f 3 (by decide)
      have b0 := HLT.out (4 * t + 0)
      have b1 := HLT.out (4 * t + 1)
      have b2 := HLT.out (4 * t + 2)
      have b3 := HLT.out (4 * t + 3)
      have HW : Hid (blkw z 0 t = BitVec.ofNat 32 (z.getD (4 * t + 0) 0 * 16777216 + z.getD (4 * t + 1) 0 * 65536 + z.getD (4 * t + 2) 0 * 256 + z.getD (4 * t + 3) 0)) := by
        show _ = _; unfold blkw; simp only [Nat.zero_add, Nat.add_zero]
      have hold := har.cell t (by omega)
      have hfr := har.free t
      have HAR := Hid.mk' har
      have HAR0 := Hid.mk' har0
      generalize z.getD (4 * t + 0) 0 = x0 at *
      generalize z.getD (4 * t + 1) 0 = x1 at *
      generalize z.getD (4 * t + 2) 0 = x2 at *
      generalize z.getD (4 * t + 3) 0 = x3 at *
      rw [Nat.add_zero] at f0
      generalize nt ((sched (blkw z 0) t ++ List.replicate (64 - t) 0).getD t 0) = old at *
      clear f har har0
      have hsl := cut64 g 8 (4 * t) (4 * (t : Int)) (by omega) (by omega)
      have HO := Hid.mk' (or4 x0 x1 x2 x3 b0 b1 b2 b3)
      have hv : bits .or .u32 (bits .or .u32 (bits .or .u32 ((x0 : Int) * 16777216) ((x1 : Int) * 65536)) ((x2 : Int) * 256)) (x3 : Int) = (nt (blkw z 0 t) : Int) := by
        rw [HO.out, HW.out, nt_of _ (by omega)]
      have HV := Hid.mk' hv
      clear hv HO
      go_wp2
      have hm4 : 4 ≤ 64 - 4 * t := by omega
      clear hsl
      generalize 64 - 4 * t = M at *
      generalize 8 + 4 * t = q at *
      go_region
      rw [HV.out]
      go_wp2
      refine ⟨⟨t + 1, by omega, by go_num, ?_, ?_, ?_⟩, by simp [intOf]; omega⟩
      · rw [← set_sched (blkw z 0) t (by omega) (blkw z 0 t) (by unfold nextw; rw [if_pos h16])]
        exact (HAR.out.set t _).drew
      · exact HAR0.out.but (((But.refl (· = w.heap.size + 1) wr).setCell (fun _ => rfl) _).drew) (by omega)
      · exact (hbt.setCell (fun h => by have h' : w.heap.size + 1 < w.heap.size := h; omega) _).drew
    · have ht16 : t = 16 := by omega
      have hge : ¬ ((t : Int) < 16) := by omega
      rw [ht16] at har
      have HAR := Hid.mk' har
      have HAR0 := Hid.mk' har0
      have HBT := Hid.mk' hbt
      clear har har0 h16 ht hlen hbt ht16
      obtain ⟨t0, ht0⟩ : ∃ t0, t0 = t := ⟨_, rfl⟩
      rw [← ht0] at hge ⊢
      clear ht0
      obtain ⟨wm, hwm⟩ : ∃ wm, wm = wr := ⟨_, rfl⟩
      subst hwm
      go_wp2
      go_loopw [6] (fun i wr => ∃ t : Nat, 16 ≤ t ∧ t ≤ 64 ∧ i = .int .i64 t ∧ Ar wr (w.heap.size + 1) 73 (sched (blkw z 0) t ++ List.replicate (64 - t) 0) ∧ Ar wr w.heap.size 73 (List.replicate 64 0) ∧ But (fun _ => False) w wr) (fun i _ => 64 - (intOf i).toNat)
      case atStart => exact ⟨16, by decide, by decide, rfl, HAR.out, HAR0.out, HBT.out⟩
      case round =>
        obtain ⟨t, ht16, ht, rfl, har, har0, hbt⟩ := hrel
        have hlen : (sched (blkw z 0) t ++ List.replicate (64 - t) 0).length = 64 := by rw [List.length_append, sched_len, List.length_replicate]; omega
        by_cases h64 : t < 64
        · have g15 : wr.cell? ⟨w.heap.size + 1, t - 15, none⟩ = some (.int .u32 (nt ((sched (blkw z 0) t).getD (t - 15) 0) : Int)) := by rw [har.cell _ (by omega), getD_sched _ _ _ (by omega)]
          have g2 : wr.cell? ⟨w.heap.size + 1, t - 2, none⟩ = some (.int .u32 (nt ((sched (blkw z 0) t).getD (t - 2) 0) : Int)) := by rw [har.cell _ (by omega), getD_sched _ _ _ (by omega)]
          have g16 : wr.cell? ⟨w.heap.size + 1, t - 16, none⟩ = some (.int .u32 (nt ((sched (blkw z 0) t).getD (t - 16) 0) : Int)) := by rw [har.cell _ (by omega), getD_sched _ _ _ (by omega)]
          have g7 : wr.cell? ⟨w.heap.size + 1, t - 7, none⟩ = some (.int .u32 (nt ((sched (blkw z 0) t).getD (t - 7) 0) : Int)) := by rw [har.cell _ (by omega), getD_sched _ _ _ (by omega)]
          have HW : Hid (nextw (blkw z 0) (sched (blkw z 0) t) t = (sched (blkw z 0) t).getD (t - 16) 0 + sg0 ((sched (blkw z 0) t).getD (t - 15) 0) + (sched (blkw z 0) t).getD (t - 7) 0 + sg1 ((sched (blkw z 0) t).getD (t - 2) 0)) := by show _ = _; unfold nextw; rw [if_neg (by omega)]
          have hold := har.cell t (by omega)
          have hfr := har.free t
          have HAR2 := Hid.mk' har
          have HAR02 := Hid.mk' har0
          generalize (sched (blkw z 0) t).getD (t - 15) 0 = y15 at *
          generalize (sched (blkw z 0) t).getD (t - 2) 0 = y2 at *
          generalize (sched (blkw z 0) t).getD (t - 16) 0 = y16 at *
          generalize (sched (blkw z 0) t).getD (t - 7) 0 = y7 at *
          generalize nt ((sched (blkw z 0) t ++ List.replicate (64 - t) 0).getD t 0) = old at *
          have e15 : (t : Int) - 15 = ((t - 15 : Nat) : Int) := by omega
          have e2 : (t : Int) - 2 = ((t - 2 : Nat) : Int) := by omega
          have e16 : (t : Int) - 16 = ((t - 16 : Nat) : Int) := by omega
          have e7 : (t : Int) - 7 = ((t - 7 : Nat) : Int) := by omega
          have l15 : t - 15 < 64 := by omega
          have l2 : t - 2 < 64 := by omega
          have l16 : t - 16 < 64 := by omega
          have l7 : t - 7 < 64 := by omega
          generalize t - 15 = i15 at *
          generalize t - 2 = i2 at *
          generalize t - 16 = i16 at *
          generalize t - 7 = i7 at *
          clear har har0
          have hs0 : bits .xor .u32 (bits .xor .u32 (nt (y15.rotateRight 7) : Int) (nt (y15.rotateRight 18) : Int)) ((nt y15 : Int) / 8) = (nt (sg0 y15) : Int) := by
            rw [shr3_nt, xor_nt, xor_nt]; rfl
          have hs1 : bits .xor .u32 (bits .xor .u32 (nt (y2.rotateRight 17) : Int) (nt (y2.rotateRight 19) : Int)) ((nt y2 : Int) / 1024) = (nt (sg1 y2) : Int) := by
            rw [shr10_nt, xor_nt, xor_nt]; rfl
          have hn15 := nt_lt y15
          have hn2 := nt_lt y2
          go_wp2
          go_quiet (fail)
          go_wp2_with (go_at_call 49; refine Calls.mono (srotr_any _ _ (by decide) (by decide) _) ?_; rintro e w' ⟨rfl, rfl⟩)
          clear hs0 hs1 hn15 hn2 g15 g2
          have HA : Hid (((nt y16 : Int) + (nt (sg0 y15) : Int) + (nt y7 : Int) + (nt (sg1 y2) : Int)) % 4294967296 = (nt (nextw (blkw z 0) (sched (blkw z 0) t) t) : Int)) := by
            show _ = _; rw [HW.out, ← add_ntm, ← add_ntm, ← add_ntm]; omega
          have ha1 := nt_lt y16
          have ha2 := nt_lt (sg0 y15)
          have ha3 := nt_lt y7
          have ha4 := nt_lt (sg1 y2)
          go_region
          rw [HA.out]
          clear HA ha1 ha2 ha3 ha4
          go_wp2
          go_roundw
          case rel =>
            refine ⟨t + 1, by omega, by omega, by go_num, ?_, ?_, ?_⟩
            · rw [← set_sched (blkw z 0) t (by omega) _ rfl]
              exact (show Ar (wr.drewN (nq + 1)) (w.heap.size + 1) 73 _ from HAR2.out).set t _
            · exact HAR02.out.but ((But.refl (· = w.heap.size + 1) wr).drewN.setCell (fun _ => rfl) _) (by omega)
            · exact hbt.drewN.setCell (fun h => by have h' : w.heap.size + 1 < w.heap.size := h; omega) _
          case measure => simp [intOf]; omega
        · obtain rfl : t = 64 := by omega
          have e : sched (blkw z 0) 64 ++ List.replicate (64 - 64) 0 = sched (blkw z 0) 64 := by simp
          rw [e] at har
          have HAR2 := Hid.mk' har
          have HAR02 := Hid.mk' har0
          have hsz := hbt.size
          have HL : Hid ((sched (blkw z 0) 64).length = 64) := sched_len _ _
          clear har har0 h64 ht hlen e
          obtain ⟨L, hL⟩ : ∃ L, L = sched (blkw z 0) 64 := ⟨_, rfl⟩
          rw [← hL] at HAR2 HL
          have HSL := Hid.mk' hL
          clear hL
          have hold : wr.heap[w.heap.size]? = some (.cells (u32s (List.replicate 64 0)).toArray 73 (0, 0)) := HAR02.out
          obtain ⟨C, hC⟩ : ∃ C, C = (u32s L).toArray := ⟨_, rfl⟩
          have HLC : Hid (C.size = 64) := by show _ = _; rw [hC, size_u32s]; exact HL.out
          have HARC : Hid (wr.heap[w.heap.size + 1]? = some (.cells C 73 (0, 0))) := by show _ = _; rw [hC]; exact HAR2.out
          have HOLD := Hid.mk' hold
          have HC' := Hid.mk' hC
          clear hold hC
          have key : ∀ (ops : Array Oper) (rest : List Oper) (o : Oper) (a : Act) (Q : Exit → Act → World → Prop) (x : Operand), o.guard = none → o.op = .load 73 x → a.eval x = .pointer (some ⟨w.heap.size + 1, 0, none⟩) → wpList Tryd.prog ops Q rest (a.put o.dst (.agg C)) wr → wpList Tryd.prog ops Q (o :: rest) a wr :=
            fun ops rest o a Q x h1 h2 h3 h4 => wpList_load_row h1 73 x h2 (w.heap.size + 1) h3 73 C (0, 0) _ HARC.out Tryd.underlying73 rfl (by rw [HLC.out]; exact hi47) h4
          have KEY := Hid.mk' key
          clear key
          go_wp2_with (first
            | (refine KEY.out _ _ _ _ _ _ rfl rfl rfl ?_)
            | (refine wpList_store_arr rfl _ _ _ rfl w.heap.size L rfl (by rw [← HC'.out]; rfl) 73 _ HOLD.out (by rw [HL.out]; exact hi47) (by rw [size_u32s, HL.out]; rfl) ?_; intro w2 har2 hgrow2))
          refine bodyPost_ret (results_cell_row rfl _ _ w.heap.size _ _ _ _ rfl har2 Tryd.underlying73 rfl (by rw [size_u32s, HL.out]; exact hi47)) rfl ⟨by rw [HSL.out], ?_⟩
          exact hbt.grown hgrow2 (fun k e hk => by cases e; exact absurd hk (Nat.lt_irrefl _))
end Go.Proofs.YthpgjbblbhjndaaDoor
