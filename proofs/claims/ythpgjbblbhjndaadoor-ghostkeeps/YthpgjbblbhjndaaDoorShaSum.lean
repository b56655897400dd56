/- The program's Sum. -/
import Derived.Test.YthpgjbblbhjndaaDoorShaPad
namespace Go.Proofs.YthpgjbblbhjndaaDoor
open Go.RowKit

theorem cut32 (g l : Nat) (i : Int) (hi : i = (l : Int)) (hl : l < 32) (w : World) :
    (Instr.sliceAt 35 (.pointer (some ⟨g, 0, none⟩)) (some (.int .i64 i)) none none).run Tryd.prog w = .ok (.slice (some ⟨g, l, none⟩) (32 - l) (32 - l)) w := by
  subst hi
  have ha : Tryd.prog.arrayLen 35 = 32 := by kernel_rfl
  have he : Tryd.prog.elem 35 = 5 := by kernel_rfl
  have hu : Tryd.prog.underlying 35 = some (.array (Tryd.prog.arrayLen 35) (Tryd.prog.elem 35)) := by kernel_rfl
  have hs : (sizeOf 5).run Tryd.prog w = .ok 1 w := by kernel_rfl
  rw [run_sliceAt_array_l w _ _ hu .i64 (l : Int) (by omega) (by rw [ha]; omega), he, hs, ha]
  have hne : ¬ (32 = l) := by omega
  simp [Result.andThen, slicedAt, hne, Addr.add]
  intro h; exact h.symm
theorem outb_next (l : List (BitVec 32)) (i : Nat) (hi : i < 8) : (outb l).take (4 * (i + 1)) = (outb l).take (4 * i) ++ by4 (l.getD i 0) := by
  have hx := nt_lt (l.getD i 0)
  have hlen : (outb l).length = 32 := by simp [outb]
  have hg : ∀ j, j < 32 → (outb l).getD j 0 = nt (l.getD (j / 4) 0) / 2 ^ (24 - 8 * (j % 4)) % 256 := by
    intro j hj; simp [outb, List.getD, hj]
  rw [show 4 * (i + 1) = 4 * i + 3 + 1 by omega, take_next' _ (4 * i + 3) (by omega), take_next' _ (4 * i + 2) (by omega), take_next' _ (4 * i + 1) (by omega), take_next' _ (4 * i) (by omega)]
  rw [hg _ (by omega), hg _ (by omega), hg _ (by omega), hg _ (by omega)]
  rw [show (4 * i + 3) / 4 = i by omega, show (4 * i + 2) / 4 = i by omega, show (4 * i + 1) / 4 = i by omega, show 4 * i / 4 = i by omega,
    show (4 * i + 3) % 4 = 3 by omega, show (4 * i + 2) % 4 = 2 by omega, show (4 * i + 1) % 4 = 1 by omega, show 4 * i % 4 = 0 by omega]
  simp [by4]
theorem padded_ne (all : List Nat) : padded all ≠ [] := by
  intro h; have := congrArg List.length h; simp [padded] at this
theorem Holds.outb {all : List Nat} {l : List (BitVec 32)} {z : List Nat} (h : Holds (padded all) l z) : outb l = digest all := by
  rw [h.1]; rfl
theorem u8s_mem_one (zs : List Nat) : ∀ v ∈ u8s zs, v.oneCell' = true := u8s_one zs
theorem sum_one (l : List (BitVec 32)) (z : List Nat) (n : Int) : ∀ v ∈ u32s l ++ (u8s z ++ [Value.int .i64 n]), v.oneCell' = true := by
  intro v hv
  simp only [List.mem_append, List.mem_singleton] at hv
  rcases hv with hv | hv | rfl
  · exact u32s_mem_one l v hv
  · exact u8s_one z v hv
  · rfl

set_option maxRecDepth 100000 in
set_option maxHeartbeats 4000000 in
theorem sum_any {w : World} {po : Option Addr} {all : List Nat} (hs : (po = none ∧ all = []) ∨ ∃ g, po = some ⟨g, 0, none⟩ ∧ Sm w g all) (hk : Kw w) (hh : Hw w) (hlen : all.length ≤ 1073741000) :
    Calls Tryd.prog 43 #[.pointer po] w fun e w' => e = .returned (.agg (u8s (digest all)).toArray) ∧ But (fun _ => False) w w' := by
  have hi46 : (Tryd.prog.info? 84).map (·.size) = some 73 := by kernel_rfl
  have hi43 : (Tryd.prog.info? 75).map (·.size) = some 8 := by kernel_rfl
  have hi25 : (Tryd.prog.info? 35).map (·.size) = some 32 := by kernel_rfl
  have hz : ∀ w : World, (zeroValue 84).run Tryd.prog w = .ok (.agg zero73.toArray) w := fun _ => by kernel_rfl
  have hz2 : ∀ w : World, (zeroValue 35).run Tryd.prog w = .ok (.agg (u8s (List.replicate 32 0)).toArray) w := fun _ => by kernel_rfl
  obtain ⟨Z, hZ⟩ : ∃ Z, Z = zero73.toArray := ⟨_, rfl⟩
  obtain ⟨O, hO⟩ : ∃ O, O = (u8s (List.replicate 32 0)).toArray := ⟨_, rfl⟩
  rw [← hZ] at hz
  rw [← hO] at hz2
  have h2 : 2 < w.heap.size := hk.lt
  have HK := Hid.mk' hk
  have HH := Hid.mk' hh
  have HN := Hid.mk' hlen
  clear hk hh hlen
  have HR0 : Hid (Blk ((w.alloc (.cells O 35)).alloc (.cells Z 84)) w.heap.size 35 (u8s (List.replicate 32 0))) := by
    rw [hO]
    exact (Blk.new rfl).but ((But.refl (fun _ => False) _).alloc _) (fun h => h)
  have HP0 : Hid (Blk ((w.alloc (.cells O 35)).alloc (.cells Z 84)) (w.heap.size + 1) 84 zero73) := by
    rw [hZ]; exact Blk.new (by simp)
  have HB0 : Hid (But (fun _ => False) w ((w.alloc (.cells O 35)).alloc (.cells Z 84))) := ((But.refl _ w).alloc _).alloc _
  clear hZ
  have HO := Hid.mk' hO
  clear hO
  go_enter Tryd.func43, Tryd.ntmps43
  rcases hs with ⟨rfl, hall⟩ | ⟨g, rfl, hsm⟩
  case' inl =>
    go_wp2_with fail
    obtain ⟨w1, hw1⟩ : ∃ w1, w1 = ((w.alloc (.cells O 35)).alloc (.cells Z 84)) := ⟨_, rfl⟩
    rw [← hw1] at HR0 HP0 HB0 ⊢
    have HS1 : Hid (Sm w1 (w.heap.size + 1) all) := by rw [hall]; exact Sm.zero HP0.out
    have HR1 := HR0
    have HB1 := HB0
    clear hw1 hall HP0
  case' inr =>
    obtain ⟨l, z, hb, hl8, hz64, hzb, hho⟩ := hsm
    obtain ⟨L, hL⟩ : ∃ L, L = u32s l ++ (u8s z ++ [Value.int .i64 ((all.length : Nat) : Int)]) := ⟨_, rfl⟩
    have HLL : Hid (L.length = 73) := by show _ = _; rw [hL]; simp [hl8, u8s, hz64]
    have HL1 : Hid (∀ v ∈ L, v.oneCell' = true) := by rw [hL]; exact sum_one l z _
    have HBG : Hid (Blk ((w.alloc (.cells O 35)).alloc (.cells Z 84)) g 84 L) := by rw [hL]; exact hb.but HB0.out (fun h => h)
    have HSM : Hid (∀ w' : World, Blk w' (w.heap.size + 1) 84 L → Sm w' (w.heap.size + 1) all) := by
      intro w' h; exact ⟨l, z, by rw [← hL]; exact h, hl8, hz64, hzb, hho⟩
    obtain ⟨w0, hw0⟩ : ∃ w0, w0 = ((w.alloc (.cells O 35)).alloc (.cells Z 84)) := ⟨_, rfl⟩
    rw [← hw0] at HR0 HP0 HB0 HBG
    have KL : Hid (∀ (ops : Array Oper) (rest : List Oper) (o : Oper) (a : Act) (Q : Exit → Act → World → Prop) (x : Operand), o.guard = none → o.op = .load 84 x → a.eval x = .pointer (some ⟨g, 0, none⟩) → wpList Tryd.prog ops Q rest (a.put o.dst (.agg L.toArray)) w0 → wpList Tryd.prog ops Q (o :: rest) a w0) :=
      fun ops rest o a Q x h1 h2 h3 h4 => wpList_load_row h1 84 x h2 g h3 84 L.toArray (0, 0) _ HBG.out Tryd.underlying84 rfl (by rw [List.size_toArray, HLL.out]; exact hi46) h4
    have KS : Hid (∀ (ops : Array Oper) (rest : List Oper) (o : Oper) (a : Act) (Q : Exit → Act → World → Prop) (x y : Operand), o.guard = none → o.op = .store 84 x y → a.eval x = .pointer (some ⟨w.heap.size + 1, 0, none⟩) → a.eval y = .agg L.toArray → (∀ w', Sm w' (w.heap.size + 1) all → But (· = w.heap.size + 1) w0 w' → wpList Tryd.prog ops Q rest (a.put o.dst undef) w') → wpList Tryd.prog ops Q (o :: rest) a w0) := by
      intro ops rest o a Q x y h1 h2 h3 h4 h5
      refine wpList_store_at h1 84 x y h2 (w.heap.size + 1) 0 L h3 h4 84 [] zero73 [] (by simpa using HP0.out) rfl (by rw [HLL.out]; rfl) (by rw [HLL.out]; exact hi46) HL1.out ?_
      intro w' hb' hb2
      exact h5 w' (HSM.out w' (by simpa using hb')) hb2
    rw [hw0] at KL KS HR0 HB0
    obtain ⟨C, hC⟩ : ∃ C, C = L.toArray := ⟨_, rfl⟩
    rw [← hC] at KL KS
    clear hb hl8 hz64 hzb hho hL hC
    go_wp2_with (first
      | (refine KL.out _ _ _ _ _ _ rfl rfl rfl ?_)
      | (refine KS.out _ _ _ _ _ _ _ rfl rfl rfl (by exact rfl) ?_; intro w1 hsm1 hbut1))
    have HS1 := Hid.mk' hsm1
    have HR1 := Hid.mk' (HR0.out.but hbut1 (by omega))
    have HB1 := Hid.mk' (HB0.out.then hbut1 (fun i hi e => by omega))
    clear hsm1 hbut1 KL KS HSM HBG HLL HL1 HP0 hw0
  all_goals
    clear HR0 HB0
    have hs1 := HB1.out.size
    refine Calls.mono (pad_any HS1.out (HK.out.but HB1.out (fun h => h)) (HH.out.but HB1.out (fun h => h)) (by omega) HN.out) ?_
    rintro e w2 ⟨rfl, hsm2, hbut2⟩
    obtain ⟨l2, z2, hb2, hl2, _, _, hho2⟩ := hsm2
    have HOUT := Hid.mk' (hho2 (padded_ne all)).outb
    have HL2 := Hid.mk' hl2
    have HB2 := Hid.mk' hb2
    have HBU2 := Hid.mk' (HB1.out.then hbut2 (fun i hi e => by omega))
    have HR2 := Hid.mk' (HR1.out.but hbut2 (by omega))
    clear hho2 hb2 hl2 hbut2
    obtain ⟨D, hD⟩ : ∃ D, D = digest all := ⟨_, rfl⟩
    rw [← hD] at HOUT
    have HD := Hid.mk' hD
    clear hD
    have KL : Hid (∀ (wx : World), wx.heap[w.heap.size + 1]? = w2.heap[w.heap.size + 1]? → ∀ (ops : Array Oper) (rest : List Oper) (o : Oper) (a : Act) (Q : Exit → Act → World → Prop) (x : Operand), o.guard = none → o.op = .load 75 x → a.eval x = .pointer (some ⟨w.heap.size + 1, 0, none⟩) → wpList Tryd.prog ops Q rest (a.put o.dst (.agg (u32s l2).toArray)) wx → wpList Tryd.prog ops Q (o :: rest) a wx) :=
      fun wx hx ops rest o a Q x h1 h2 h3 h4 => wpList_load_cells h1 75 x h2 _ h3 (u32s l2) _ (by
        intro j v hv
        have hj : j < (u32s l2).length := (List.getElem?_eq_some_iff.1 hv).1
        have e : (⟨w.heap.size + 1, 0, none⟩ : Addr).add j = ⟨w.heap.size + 1, j, none⟩ := by unfold Addr.add; split <;> simp_all
        have hbx : Blk wx (w.heap.size + 1) 84 _ := hx.trans HB2.out
        rw [e, hbx.cell, List.getElem?_append_left hj]; exact hv) Tryd.underlying75 rfl (by rw [List.length_map, HL2.out]; exact hi43) h4
    obtain ⟨C2, hC2⟩ : ∃ C2, C2 = (u32s l2).toArray := ⟨_, rfl⟩
    rw [← hC2] at KL
    have HIX : Hid (∀ k : Nat, k < 8 → ∀ w, (Instr.index 75 (.agg C2) (.int .i64 (k : Int))).run Tryd.prog w = .ok (.int .u32 (nt (l2.getD k 0) : Int)) w) := by
      intro k hk
      refine idx_u32 75 8 Tryd.underlying75 _ k _ hk ?_
      have := HL2.out
      rw [hC2]
      simp [u32s, List.getElem?_eq_getElem (show k < l2.length by omega)]
    clear hC2
    have hgl2 : w.heap.size + 1 < w2.heap.size := HB2.out.lt
    have halloc : ∀ o : Obj, (w2.alloc o).heap[w.heap.size + 1]? = w2.heap[w.heap.size + 1]? := fun o => heap_alloc_old w2 o hgl2
    have HAL := Hid.mk' halloc
    clear halloc
    go_wp2_with (refine KL.out _ (by exact HAL.out _) _ _ _ _ _ _ rfl rfl rfl ?_)
    have HW3 : Hid (Blk (w2.alloc (.cells O 35)) w2.heap.size 35 (u8s (D.take (4 * 0) ++ List.replicate (32 - 4 * 0) 0))) := by
      rw [HO.out]; exact Blk.new rfl
    have hsz2 := HBU2.out.size
    go_loopw [15] (fun i wr => ∃ k : Nat, k ≤ 8 ∧ i = .int .i64 k ∧ Blk wr w2.heap.size 35 (u8s (D.take (4 * k) ++ List.replicate (32 - 4 * k) 0)) ∧ But (fun _ => False) w2 wr) (fun i _ => 8 - (intOf i).toNat)
    case atStart => exact ⟨0, by decide, rfl, HW3.out, (But.refl _ _).alloc _⟩
    case round =>
      obtain ⟨k, hk8, rfl, hblk, hbk⟩ := hrel
      by_cases h8 : k < 8
      · have hix := HIX.out k h8
        have h8i : (k : Int) < 8 := by omega
        have hcut := cut32 w2.heap.size (4 * k) (4 * (k : Int)) (by omega) (by omega)
        have hnx := outb_next l2 k h8
        rw [HOUT.out] at hnx
        have hdl : D.length = 32 := by rw [← HOUT.out]; simp [outb]
        have hb' : Blk wr w2.heap.size 35 (u8s (D.take (4 * k)) ++ [Value.int .u8 (0 : Nat), Value.int .u8 (0 : Nat), Value.int .u8 (0 : Nat), Value.int .u8 (0 : Nat)] ++ u8s (List.replicate (28 - 4 * k) 0)) := by
          have e : u8s (D.take (4 * k)) ++ [Value.int .u8 (0 : Nat), Value.int .u8 (0 : Nat), Value.int .u8 (0 : Nat), Value.int .u8 (0 : Nat)] ++ u8s (List.replicate (28 - 4 * k) 0) = u8s (D.take (4 * k) ++ List.replicate (32 - 4 * k) 0) := by
            rw [show 32 - 4 * k = 4 + (28 - 4 * k) by omega]
            simp only [← List.replicate_append_replicate, u8s_append]
            simp [u8s, List.replicate_succ]
          rw [e]; exact hblk
        have HPW := Hid.mk' (putWord_any (n := 32 - 4 * k) (c := 32 - 4 * k) (x := l2.getD k 0) hb' (show (u8s (D.take (4 * k))).length = 4 * k by simp [u8s, hdl]; omega) (by omega))
        have HNX := Hid.mk' hnx
        clear hb' hnx hdl hblk
        go_wp2_with (go_at_call 47; refine Calls.mono HPW.out ?_; rintro e w4 ⟨rfl, hb4, hbut4⟩)
        refine ⟨⟨k + 1, by omega, by go_num, ?_, hbk.then hbut4 (fun i hi e => by omega)⟩, by simp [intOf]; omega⟩
        rw [HNX.out, u8s_append, u8s_append, show 32 - 4 * (k + 1) = 28 - 4 * k by omega]
        exact hb4
      · have hge : ¬ ((k : Int) < 8) := by omega
        have hk : k = 8 := by omega
        have hD : D.take (4 * k) ++ List.replicate (32 - 4 * k) 0 = D := by
          have hdl : D.length = 32 := by rw [← HOUT.out]; simp [outb]
          rw [hk]; simp; exact List.take_of_length_le (by omega)
        rw [hD] at hblk
        have hdl : (u8s D).length = 32 := by rw [← HOUT.out]; simp [outb, u8s]
        have hRw : Blk wr w.heap.size 35 (u8s (List.replicate 32 0)) := HR2.out.but hbk (fun h => h)
        have HBF := Hid.mk' (HBU2.out.trans hbk)
        have KL2 : Hid (∀ (ops : Array Oper) (rest : List Oper) (o : Oper) (a : Act) (Q : Exit → Act → World → Prop) (x : Operand), o.guard = none → o.op = .load 35 x → a.eval x = .pointer (some ⟨w2.heap.size, 0, none⟩) → wpList Tryd.prog ops Q rest (a.put o.dst (.agg (u8s D).toArray)) wr → wpList Tryd.prog ops Q (o :: rest) a wr) :=
          fun ops rest o a Q x h1 h2 h3 h4 => wpList_load_row h1 35 x h2 w2.heap.size h3 35 (u8s D).toArray (0, 0) _ hblk Tryd.underlying35 rfl (by rw [List.size_toArray, hdl]; exact hi25) h4
        have KS2 : Hid (∀ (ops : Array Oper) (rest : List Oper) (o : Oper) (a : Act) (Q : Exit → Act → World → Prop) (x y : Operand), o.guard = none → o.op = .store 35 x y → a.eval x = .pointer (some ⟨w.heap.size, 0, none⟩) → a.eval y = .agg (u8s D).toArray → (∀ w', Blk w' w.heap.size 35 (u8s D) → But (· = w.heap.size) wr w' → wpList Tryd.prog ops Q rest (a.put o.dst undef) w') → wpList Tryd.prog ops Q (o :: rest) a wr) := by
          intro ops rest o a Q x y h1 h2 h3 h4 h5
          refine wpList_store_at h1 35 x y h2 w.heap.size 0 (u8s D) h3 h4 35 [] (u8s (List.replicate 32 0)) [] (by simpa using hRw) rfl (by rw [hdl]; rfl) (by rw [hdl]; exact hi25) (u8s_one _) ?_
          intro w' hb' hb2
          exact h5 w' (by simpa using hb') hb2
        have HDL := Hid.mk' hdl
        obtain ⟨C3, hC3⟩ : ∃ C3, C3 = (u8s D).toArray := ⟨_, rfl⟩
        rw [← hC3] at KL2 KS2
        clear hdl hblk hRw hbk hk hD hC3 h8 hk8
        go_wp2_with (first
          | (refine KL2.out _ _ _ _ _ _ rfl rfl rfl ?_)
          | (refine KS2.out _ _ _ _ _ _ _ rfl rfl rfl (by exact rfl) ?_; intro w5 hb5 hbut5))
        refine bodyPost_ret (results_cell_row rfl _ _ w.heap.size _ _ _ _ rfl hb5 Tryd.underlying35 rfl (by rw [List.size_toArray, HDL.out]; exact hi25)) rfl ⟨by rw [HD.out], ?_⟩
        exact HBF.out.then hbut5 (fun i hi e => by omega)
end Go.Proofs.YthpgjbblbhjndaaDoor
