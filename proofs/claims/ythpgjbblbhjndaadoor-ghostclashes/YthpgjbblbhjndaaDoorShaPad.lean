/- The program's pad. -/
import Derived.Test.YthpgjbblbhjndaaDoorShaWrite
namespace Go.Proofs.YthpgjbblbhjndaaDoor
open Go.RowKit

theorem run72 : Tryd.prog.underlying 96 = some (.array (Tryd.prog.arrayLen 96) (Tryd.prog.elem 96)) := by kernel_rfl
theorem cut72 (g l : Nat) (i : Int) (hi : i = (l : Int)) (hl : l < 72) (w : World) :
    (Instr.sliceAt 96 (.pointer (some ⟨g, 0, none⟩)) (some (.int .i64 i)) none none).run Tryd.prog w = .ok (.slice (some ⟨g, l, none⟩) (72 - l) (72 - l)) w := by
  subst hi
  have ha : Tryd.prog.arrayLen 96 = 72 := by kernel_rfl
  have he : Tryd.prog.elem 96 = 5 := by kernel_rfl
  have hs : (sizeOf 5).run Tryd.prog w = .ok 1 w := by kernel_rfl
  rw [run_sliceAt_array_l w _ _ run72 .i64 (l : Int) (by omega) (by rw [ha]; omega), he, hs, ha]
  have hne : ¬ (72 = l) := by omega
  simp [Result.andThen, slicedAt, hne, Addr.add]
  intro h; exact h.symm
theorem cut72h (g l : Nat) (i : Int) (hi : i = (l : Int)) (hl : l ≤ 72) (w : World) :
    (Instr.sliceAt 96 (.pointer (some ⟨g, 0, none⟩)) none (some (.int .i64 i)) none).run Tryd.prog w = .ok (.slice (some ⟨g, 0, none⟩) l 72) w := by
  subst hi
  have ha : Tryd.prog.arrayLen 96 = 72 := by kernel_rfl
  have he : Tryd.prog.elem 96 = 5 := by kernel_rfl
  have hs : (sizeOf 5).run Tryd.prog w = .ok 1 w := by kernel_rfl
  rw [run_sliceAt_array_h w _ _ run72 .i64 (l : Int) (by omega) (by rw [ha]; omega), he, hs, ha]
  simp [Result.andThen, slicedAt, Addr.add]
theorem cutS_h (g o n c h : Nat) (hc : h ≤ c) (w : World) :
    (Instr.sliceAt 31 (.slice (some ⟨g, o, none⟩) n c) none (some (.int .i64 (h : Int))) none).run Tryd.prog w = .ok (.slice (some ⟨g, o, none⟩) h c) w := by
  have hu : Tryd.prog.underlying 31 = some (.slice (Tryd.prog.elem 31)) := by kernel_rfl
  have he : Tryd.prog.elem 31 = 5 := by kernel_rfl
  have hs : (sizeOf 5).run Tryd.prog w = .ok 1 w := by kernel_rfl
  rw [run_sliceAt_slice _ _ _ _ _ _ hu, run_slice_h w _ _ _ _ hu .i64 (h : Int) (by omega) (by omega), he, hs]
  simp [Result.andThen, sliced, Addr.add]
theorem cutS_l (g o n c l : Nat) (hn : l ≤ n) (hc : l < c) (w : World) :
    (Instr.sliceAt 31 (.slice (some ⟨g, o, none⟩) n c) (some (.int .i64 (l : Int))) none none).run Tryd.prog w = .ok (.slice (some ⟨g, o + l, none⟩) (n - l) (c - l)) w := by
  have hu : Tryd.prog.underlying 31 = some (.slice (Tryd.prog.elem 31)) := by kernel_rfl
  have he : Tryd.prog.elem 31 = 5 := by kernel_rfl
  have hs : (sizeOf 5).run Tryd.prog w = .ok 1 w := by kernel_rfl
  have hne : ¬ c = l := by omega
  rw [run_sliceAt_slice _ _ _ _ _ _ hu, run_slice_l w _ _ _ _ hu .i64 (l : Int) (by omega) (by omega), he, hs]
  simp [Result.andThen, sliced, hne, Addr.add]

theorem Blk.bs {w : World} {e cap : Nat} {T : TypeId} {zs : List Nat} {Y : List Value} (h : Blk w e T (u8s zs ++ Y)) (hz : ∀ z ∈ zs, z < 256) (h0 : 0 < zs.length) (hl : zs.length ≤ 281474976710656) (hc : zs.length ≤ cap) : Bs w (.slice (some ⟨e, 0, none⟩) zs.length cap) zs :=
  ⟨hz, hl, .inr ⟨h0, e, 0, cap, rfl, hc, h.lt, fun i hi => by
    rw [h.cell, Nat.zero_add, List.getElem?_append_left (by simp [u8s]; omega), u8s_get zs i hi]⟩⟩
theorem be8_by4 (n : Nat) (hn : n < 18446744073709551616) : be8 n = by4 (BitVec.ofNat 32 (n / 4294967296)) ++ by4 (BitVec.ofNat 32 n) := by
  have e1 : nt (BitVec.ofNat 32 (n / 4294967296)) = n / 4294967296 := nt_of _ (by omega)
  have e2 : nt (BitVec.ofNat 32 n) = n % 4294967296 := by unfold nt; simp
  unfold be8 by4
  rw [e1, e2]
  simp only [List.range_succ, List.range_zero, List.nil_append, List.cons_append, List.map_cons, List.map_nil]
  simp only [List.cons.injEq, and_true]
  refine ⟨?_, ?_, ?_, ?_, ?_, ?_, ?_, ?_⟩ <;> simp <;> omega
theorem padded_tail (all : List Nat) (N r : Nat) (hN : N = all.length) (hr : r = noughts N) : all ++ (128 :: List.replicate r 0 ++ be8 (8 * N)) = padded all := by
  subst hN hr; simp [padded]

set_option maxRecDepth 100000 in
set_option maxHeartbeats 4000000 in
theorem pad_any {w : World} {g : Nat} {all : List Nat} (hs : Sm w g all) (hk : Kw w) (hh : Hw w) (hg : 2 < g) (hlen : all.length ≤ 1073741000) :
    Calls Tryd.prog 46 #[.pointer (some ⟨g, 0, none⟩)] w fun e w' => e = .returned (.tuple #[]) ∧ Sm w' g (padded all) ∧ But (· = g) w w' := by
  have hcl := hs.len
  have HS := Hid.mk' hs
  have HH := Hid.mk' hh
  have HK := Hid.mk' hk
  have HN := Hid.mk' hlen
  have HG2 := Hid.mk' hg
  obtain ⟨N, hN⟩ : ∃ N, N = all.length := ⟨_, rfl⟩
  rw [← hN] at hcl hlen
  have HNN := Hid.mk' hN
  clear hs hh hk hN
  obtain ⟨q, hq⟩ : ∃ q, q = N % 64 := ⟨_, rfl⟩
  have hrem : (N : Int) % 64 = (q : Int) := by omega
  have hq64 : q < 64 := by omega
  have HQ := Hid.mk' hq
  clear hq
  go_enter Tryd.func46, Tryd.ntmps46
  obtain ⟨r, hr⟩ : ∃ r, r = noughts N := ⟨_, rfl⟩
  have hrem2 : (119 - (q : Int)) % 64 = (r : Int) := by rw [hr]; unfold noughts; have := HQ.out; omega
  have hr64 : r < 64 := by omega
  have HR := Hid.mk' hr
  clear hr
  have hz : ∀ w : World, (zeroValue 96).run Tryd.prog w = .ok (.agg (u8s (List.replicate 72 0)).toArray) w := fun _ => by kernel_rfl
  obtain ⟨C, hC⟩ : ∃ C, C = (u8s (List.replicate 72 0)).toArray := ⟨_, rfl⟩
  rw [← hC] at hz
  have HE0 : Hid (Blk (w.alloc (.cells C 96)) w.heap.size 96 (u8s (List.replicate 72 0))) := by rw [hC]; exact heap_alloc_new _ _
  have he0 : (w.alloc (.cells C 96)).cell? ⟨w.heap.size, 0, none⟩ = some (.int .u8 (0 : Nat)) := by rw [HE0.out.cell]; rfl
  have hf0 := HE0.out.free 0
  have hs1 := cut72 w.heap.size (1 + r) (1 + (r : Int)) (by omega) (by omega)
  have hs2 := cutS_h w.heap.size (1 + r) (72 - (1 + r)) (72 - (1 + r)) 8 (by omega)
  have hs3 := cutS_l w.heap.size (1 + r) 8 (72 - (1 + r)) 4 (by omega) (by omega)
  have hs4 := cut72h w.heap.size (1 + r + 8) (1 + (r : Int) + 8) (by omega) (by omega)
  have hgl := HS.out.lt
  have hclA : ∀ o : Obj, (w.alloc o).cell? ⟨g, 72, none⟩ = some (.int .i64 (N : Int)) := fun o => by rw [← hcl]; exact World.cell?_of_block (heap_alloc_old w o hgl)
  obtain ⟨hi, hhi⟩ : ∃ hi, hi = BitVec.ofNat 32 (8 * N / 4294967296) := ⟨_, rfl⟩
  obtain ⟨lo, hlo⟩ : ∃ lo, lo = BitVec.ofNat 32 (8 * N) := ⟨_, rfl⟩
  have hx1 : (N : Int) * 8 / 4294967296 = (nt hi : Int) := by rw [hhi, nt_of _ (by omega)]; omega
  have hx2 : (N : Int) * 8 % 4294967296 = (nt lo : Int) := by rw [hlo]; unfold nt; simp; omega
  have HBE : Hid (be8 (8 * N) = by4 hi ++ by4 lo) := by show _ = _; rw [hhi, hlo]; exact be8_by4 _ (by omega)
  have HE1 : Hid (Blk (w.alloc (.cells (C.setIfInBounds 0 (.int .u8 128)) 96)) w.heap.size 96 (u8s (128 :: List.replicate r 0) ++ [Value.int .u8 (0 : Nat), Value.int .u8 (0 : Nat), Value.int .u8 (0 : Nat), Value.int .u8 (0 : Nat)] ++ (u8s [0, 0, 0, 0] ++ u8s (List.replicate (63 - r) 0)))) := by
    have e : (C.setIfInBounds 0 (.int .u8 128)) = (u8s (128 :: List.replicate r 0) ++ [Value.int .u8 (0 : Nat), Value.int .u8 (0 : Nat), Value.int .u8 (0 : Nat), Value.int .u8 (0 : Nat)] ++ (u8s [0, 0, 0, 0] ++ u8s (List.replicate (63 - r) 0))).toArray := by
      rw [hC, show 72 = 1 + (r + (4 + (4 + (63 - r)))) by omega]
      simp only [← List.replicate_append_replicate, u8s_append]
      simp [u8s, List.replicate_succ]
    rw [e]; exact heap_alloc_new _ _
  have hb1 : But (fun _ => False) w (w.alloc (.cells (C.setIfInBounds 0 (.int .u8 128)) 96)) := (But.refl _ w).alloc _
  have HB1 := Hid.mk' hb1
  clear hC hhi hlo hb1 HE0
  go_wp2_with fail
  have hA1 : (u8s (128 :: List.replicate r 0)).length = 1 + r := by simp [u8s]; omega
  refine Calls.mono (putWord_any HE1.out hA1 (by omega)) ?_
  rintro e w2 ⟨rfl, hb2, hbut2⟩
  have HB2 := Hid.mk' hb2
  have HBU2 := Hid.mk' hbut2
  clear hb2 hbut2
  go_wp2_with fail
  have hB3 : Blk w2 w.heap.size 96 ((u8s (128 :: List.replicate r 0) ++ u8s (by4 hi)) ++ [Value.int .u8 (0 : Nat), Value.int .u8 (0 : Nat), Value.int .u8 (0 : Nat), Value.int .u8 (0 : Nat)] ++ u8s (List.replicate (63 - r) 0)) := by
    have e : (u8s (128 :: List.replicate r 0) ++ u8s (by4 hi)) ++ [Value.int .u8 (0 : Nat), Value.int .u8 (0 : Nat), Value.int .u8 (0 : Nat), Value.int .u8 (0 : Nat)] ++ u8s (List.replicate (63 - r) 0) = u8s (128 :: List.replicate r 0) ++ u8s (by4 hi) ++ (u8s [0, 0, 0, 0] ++ u8s (List.replicate (63 - r) 0)) := by simp [u8s]
    rw [e]; exact HB2.out
  have hA3 : (u8s (128 :: List.replicate r 0) ++ u8s (by4 hi)).length = 1 + r + 4 := by simp [u8s, by4]; omega
  refine Calls.mono (putWord_any hB3 hA3 (by omega)) ?_
  rintro e w3 ⟨rfl, hb3, hbut3⟩
  have e3 : u8s (128 :: List.replicate r 0) ++ u8s (by4 hi) ++ u8s (by4 lo) ++ u8s (List.replicate (63 - r) 0) = u8s (128 :: List.replicate r 0 ++ be8 (8 * N)) ++ u8s (List.replicate (63 - r) 0) := by
    rw [HBE.out]; simp [u8s]
  rw [e3] at hb3
  have htl : (128 :: List.replicate r 0 ++ be8 (8 * N)).length = 1 + r + 8 := by simp [be8]; omega
  have htb : ∀ z ∈ (128 :: List.replicate r 0 ++ be8 (8 * N)), z < 256 := by
    intro z hz
    simp only [List.mem_append, List.mem_cons, List.mem_replicate, be8, List.mem_map, List.mem_range] at hz
    rcases hz with (hz | hz) | ⟨i, _, hz⟩ <;> omega
  have hbs : Bs w3 (.slice (some ⟨w.heap.size, 0, none⟩) (1 + r + 8) 72) (128 :: List.replicate r 0 ++ be8 (8 * N)) := by
    have h := hb3.bs (cap := 72) htb (by omega) (by omega) (by omega)
    rw [htl] at h; exact h
  have hbut : But (fun _ => False) w w3 := (HB1.out.then HBU2.out (fun i hi e => by omega)).then hbut3 (fun i hi e => by omega)
  have HWR := Hid.mk' (write_any hbs (HS.out.but hbut (fun h => h)) (HK.out.but hbut (fun h => h)) (HH.out.but hbut (fun h => h)) HG2.out (fun _ h => by
    have h' : some w.heap.size = some g := h
    have := Option.some.inj h'
    omega) (by rw [htl]; have := HN.out; omega))
  have HBU := Hid.mk' hbut
  have HPT := Hid.mk' (padded_tail all N r HNN.out HR.out)
  clear hbs htb htl e3 hb3 hbut3 hbut hA3 hB3
  go_wp2_with fail
  refine Calls.mono HWR.out ?_
  rintro e w4 ⟨rfl, hsm4, hbut4⟩
  rw [HPT.out] at hsm4
  have HSM4 := Hid.mk' hsm4
  have HB4 := Hid.mk' ((HBU.out.mono (S := (· = g)) (fun _ _ h => h.elim)).trans hbut4)
  clear hsm4 hbut4
  go_wp2
  go_end0
  exact ⟨rfl, HSM4.out, HB4.out⟩
end Go.Proofs.YthpgjbblbhjndaaDoor
