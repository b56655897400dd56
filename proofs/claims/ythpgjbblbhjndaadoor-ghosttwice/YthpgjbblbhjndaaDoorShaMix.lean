/- The program's mix. -/
import Derived.Test.YthpgjbblbhjndaaDoorShaSpread
namespace Go.Proofs.YthpgjbblbhjndaaDoor
open Go.RowKit

/-- A block whose first cells are words. -/
def Sq (w : World) (g : Nat) (T : TypeId) (l : List (BitVec 32)) (X : List Value) : Prop := w.heap[g]? = some (.cells (u32s l ++ X).toArray T (0, 0))
theorem Sq.cell {w : World} {g : Nat} {T : TypeId} {l : List (BitVec 32)} {X : List Value} (h : Sq w g T l X) (i : Nat) (hi : i < l.length) : w.cell? ⟨g, i, none⟩ = some (.int .u32 (nt (l.getD i 0) : Int)) := by
  rw [cell_of_row w g i _ _ _ h]
  simp [u32s, hi, List.getElem?_append_left]
theorem Sq.free {w : World} {g : Nat} {T : TypeId} {l : List (BitVec 32)} {X : List Value} (h : Sq w g T l X) (i : Nat) : w.frozen? ⟨g, i, none⟩ = false := frozen_of_row w g i _ _ h
theorem Sq.set {w : World} {g : Nat} {T : TypeId} {l : List (BitVec 32)} {X : List Value} (h : Sq w g T l X) (i : Nat) (hi : i < l.length) (y : BitVec 32) : Sq (w.setCell ⟨g, i, none⟩ (.int .u32 (nt y : Int))) g T (l.set i y) X := by
  unfold Sq at h ⊢
  rw [heap_setCell_same w g i _ _ _ h]
  simp [u32s, List.map_set, List.set_append_left, hi]
theorem Sq.but {R : Nat → Prop} {w w' : World} {g : Nat} {T : TypeId} {l : List (BitVec 32)} {X : List Value} (h : Sq w g T l X) (k : But R w w') (hr : ¬ R g) : Sq w' g T l X := (k.block g (lt_of_block h) hr).trans h
theorem Sq.lt {w : World} {g : Nat} {T : TypeId} {l : List (BitVec 32)} {X : List Value} (h : Sq w g T l X) : g < w.heap.size := lt_of_block h

/-- The rounds' words, where the program keeps them. -/
def Kw (w : World) : Prop := ∀ i, i < 64 → w.cell? ⟨2, i, none⟩ = some (.int .u32 (nt (kws.getD i 0) : Int))
theorem Kw.lt {w : World} (h : Kw w) : 2 < w.heap.size := World.block_lt_of_cell? _ _ (h 0 (by decide))
theorem Kw.but {R : Nat → Prop} {w w' : World} (h : Kw w) (k : But R w w') (hr : ¬ R 2) : Kw w' := fun i hi =>
  (World.cell?_of_block (k.block 2 h.lt hr)).trans (h i hi)

theorem not_nt (a : BitVec 32) : (4294967295 : Int) - (nt a : Int) = (nt (~~~a) : Int) := by
  unfold nt; rw [BitVec.toNat_not]; have := a.isLt; omega
theorem zip_take (l v : List (BitVec 32)) (i : Nat) (hl : l.length = 8) (hv : v.length = 8) (hi : i < 8) :
    ((List.zipWith (· + ·) l v).take i ++ l.drop i).set i (l.getD i 0 + v.getD i 0) = (List.zipWith (· + ·) l v).take (i + 1) ++ l.drop (i + 1) := by
  apply List.ext_getElem?
  intro j
  have hz : (List.zipWith (· + ·) l v).length = 8 := by simp [hl, hv]
  rw [List.getElem?_set]
  by_cases hj : i = j
  · subst hj
    rw [if_pos rfl, if_pos (by simp [hl, hv]; omega), List.getElem?_append_left (by simp [hl, hv]; omega), List.getElem?_take_of_lt (by omega)]
    simp [hl, hv, hi]
  · rw [if_neg hj]
    by_cases h2 : j < i
    · rw [List.getElem?_append_left (by simp [hl, hv]; omega), List.getElem?_append_left (by simp [hl, hv]; omega), List.getElem?_take_of_lt h2, List.getElem?_take_of_lt (by omega)]
    · rw [List.getElem?_append_right (by simp [hl, hv]; omega), List.getElem?_append_right (by simp [hl, hv]; omega), List.getElem?_drop, List.getElem?_drop]
      congr 1
      simp [hl, hv]; omega

theorem ones_nt (x : BitVec 32) : bits .xor .u32 (if IntKind.u32.signed = true then -1 else IntKind.u32.max) (nt x : Int) = (nt (~~~x) : Int) := by
  have e : (if IntKind.u32.signed = true then -1 else IntKind.u32.max : Int) = (nt (BitVec.allOnes 32) : Int) := by decide
  rw [e, xor_nt, BitVec.allOnes_xor]
def bs1 (e : BitVec 32) : BitVec 32 := e.rotateRight 6 ^^^ e.rotateRight 11 ^^^ e.rotateRight 25
def bs0 (a : BitVec 32) : BitVec 32 := a.rotateRight 2 ^^^ a.rotateRight 13 ^^^ a.rotateRight 22
def cho (e f g : BitVec 32) : BitVec 32 := (e &&& f) ^^^ (~~~e &&& g)
def maj (a b c : BitVec 32) : BitVec 32 := (a &&& b) ^^^ (a &&& c) ^^^ (b &&& c)
theorem idx_u32 (T n : Nat) (hT : Tryd.prog.underlying T = some (.array n 43)) (cs : Array Value) (t : Nat) (v : Value) (ht : t < n) (hc : cs[t]? = some v) (w : World) :
    (Instr.index T (.agg cs) (.int .i64 (t : Int))).run Tryd.prog w = .ok v w := by
  have h1 : (sizeOf 43).run Tryd.prog w = .ok 1 w := by kernel_rfl
  simp [Instr.index, run_underlying hT, asIntOf, h1, part, hc, go_sem]
  intro h; omega

theorem zip_get (l v : List (BitVec 32)) (i : Nat) (hl : l.length = 8) (hv : v.length = 8) (hi : i < 8) : ((List.zipWith (· + ·) l v).take i ++ l.drop i).getD i 0 = l.getD i 0 := by
  have e : ((List.zipWith (· + ·) l v).take i).length = i := by simp [hl, hv]; omega
  unfold List.getD
  rw [List.getElem?_append_right (by omega), e, List.getElem?_drop]
  simp
theorem zip_len (l v : List (BitVec 32)) (i : Nat) (hl : l.length = 8) (hv : v.length = 8) (hi : i ≤ 8) : ((List.zipWith (· + ·) l v).take i ++ l.drop i).length = 8 := by
  simp [hl, hv]; omega

set_option maxRecDepth 100000 in
set_option maxHeartbeats 4000000 in
theorem mix_any {w : World} {g : Nat} {T : TypeId} {l : List (BitVec 32)} {z : List Nat} {X : List Value} (hg : Sq w g T l (u8s z ++ X)) (hl : l.length = 8) (hz : z.length = 64) (hlt : ∀ x ∈ z, x < 256) (hk : Kw w) :
    Calls Tryd.prog 45 #[.pointer (some ⟨g, 0, none⟩), .pointer (some ⟨g, 8, none⟩)] w fun e w' => e = .returned (.tuple #[]) ∧ Sq w' g T (comp (blkw z 0) l) (u8s z ++ X) ∧ But (· = g) w w' := by
  have hi47 : (Tryd.prog.info? 73).map (·.size) = some 64 := by kernel_rfl
  have HS := Hid.mk' (spread_any (w := w) (z := z) hg (by
    intro i hi
    rw [List.getElem?_toArray, List.getElem?_append_right (by simp [u32s]; omega), List.getElem?_append_left (by simp [u32s, u8s]; omega)]
    have e : 8 + i - (u32s l).length = i := by simp [u32s]; omega
    rw [e, u8s_get z i (by omega)]) (by
    intro i
    by_cases h : i < z.length
    · exact hlt _ (getD_mem z i h)
    · simp [List.getD, h]))
  have HG := Hid.mk' hg
  have HK := Hid.mk' hk
  have hgl := hg.lt
  have HLL := Hid.mk' hl
  clear hg hk hz hlt hl
  go_enter Tryd.func45, Tryd.ntmps45
  go_wp2_with fail
  refine Calls.mono HS.out ?_
  rintro e w1 ⟨rfl, hb1⟩
  have HLL2 : Hid ((sched (blkw z 0) 64).length = 64) := sched_len _ _
  obtain ⟨W, hW⟩ : ∃ W, W = sched (blkw z 0) 64 := ⟨_, rfl⟩
  obtain ⟨C, hC⟩ : ∃ C, C = (u32s W).toArray := ⟨_, rfl⟩
  rw [← hW] at HLL2 ⊢
  rw [← hC]
  have HLC : Hid (C.size = 64) := by show _ = _; rw [hC, size_u32s]; exact HLL2.out
  have HC' := Hid.mk' hC
  have HW := Hid.mk' hW
  clear hC hW HS
  go_wp2_with (first
    | (refine wpList_store_arr rfl _ _ _ rfl w1.heap.size W rfl (by rw [← HC'.out]; rfl) 73 _ (heap_alloc_new w1 _) (by rw [HLL2.out]; exact hi47) (by rw [HLL2.out]; rfl) ?_; intro w2 har2 hgrow2))
  have b2 : But (fun _ => False) w w2 := (hb1.alloc _).grown hgrow2 (fun k e hk => by cases e; have := hb1.size; omega)
  have HSq := Hid.mk' (HG.out.but b2 (fun h => h))
  have hc : ∀ i, i < 8 → w2.cell? ⟨g, i, none⟩ = some (.int .u32 (nt (l.getD i 0) : Int)) := fun i hi => HSq.out.cell i (by rw [HLL.out]; exact hi)
  have c0 := hc 0 (by decide)
  have c1 := hc 1 (by decide)
  have c2 := hc 2 (by decide)
  have c3 := hc 3 (by decide)
  have c4 := hc 4 (by decide)
  have c5 := hc 5 (by decide)
  have c6 := hc 6 (by decide)
  have c7 := hc 7 (by decide)
  have HL0 : Hid (l = [l.getD 0 0, l.getD 1 0, l.getD 2 0, l.getD 3 0, l.getD 4 0, l.getD 5 0, l.getD 6 0, l.getD 7 0]) := by
    show _ = _
    have := HLL.out
    match l, this with
    | [_, _, _, _, _, _, _, _], _ => rfl
  generalize l.getD 0 0 = l0 at *
  generalize l.getD 1 0 = l1 at *
  generalize l.getD 2 0 = l2 at *
  generalize l.getD 3 0 = l3 at *
  generalize l.getD 4 0 = l4 at *
  generalize l.getD 5 0 = l5 at *
  generalize l.getD 6 0 = l6 at *
  generalize l.getD 7 0 = l7 at *
  have HB2 := Hid.mk' b2
  have HAR2 : Hid (w2.heap[w1.heap.size]? = some (.cells C 73 (0, 0))) := by show _ = _; rw [HC'.out]; exact har2
  clear hc b2 hgrow2 har2
  go_wp2
  go_quiet (fail)
  go_wp2
  go_quiet (fail)
  have key : ∀ (wx : World), wx.heap = w2.heap → ∀ (ops : Array Oper) (rest : List Oper) (o : Oper) (a : Act) (Q : Exit → Act → World → Prop) (x : Operand), o.guard = none → o.op = .load 73 x → a.eval x = .pointer (some ⟨w1.heap.size, 0, none⟩) → wpList Tryd.prog ops Q rest (a.put o.dst (.agg C)) wx → wpList Tryd.prog ops Q (o :: rest) a wx :=
    fun wx hx ops rest o a Q x h1 h2 h3 h4 => wpList_load_row h1 73 x h2 w1.heap.size h3 73 C (0, 0) _ (by rw [hx]; exact HAR2.out) Tryd.underlying73 rfl (by rw [HLC.out]; exact hi47) h4
  have KEY := Hid.mk' key
  clear key c0 c1 c2 c3 c4 c5 c6 c7
  go_wp2_with (refine KEY.out _ (by exact rfl) _ _ _ _ _ _ rfl rfl (by exact rfl) ?_)
  have HR0 : Hid (rnds (blkw z 0) l 0 = [l0, l1, l2, l3, l4, l5, l6, l7]) := HL0.out
  have HL1 : Hid (sched (blkw z 0) 64 = W) := HW.out.symm
  have HLZ : Hid (l = [l0, l1, l2, l3, l4, l5, l6, l7]) := HL0.out
  have HRN : Hid (∀ t, rnds (blkw z 0) l (t + 1) = rnd (kws.getD t 0) (W.getD t 0) (rnds (blkw z 0) l t)) := by
    intro t; show rnd _ ((sched (blkw z 0) 64).getD t 0) _ = _; rw [HL1.out]
  have HCI : Hid (∀ t, t < 64 → C[t]? = some (.int .u32 (nt (W.getD t 0) : Int))) := by
    intro t ht
    rw [HC'.out, List.getElem?_toArray]
    have := HLL2.out
    simp [u32s, List.getElem?_eq_getElem (show t < W.length by omega)]
  clear HC' HW HL0 KEY HAR2 HLC HL1
  obtain ⟨RN, hRN⟩ : ∃ RN, RN = rnds (blkw z 0) l := ⟨_, rfl⟩
  have HC8 : Hid (comp (blkw z 0) l = List.zipWith (· + ·) l (RN 64)) := by rw [hRN]; rfl
  rw [← hRN] at HR0 HRN
  clear hRN
  have hsz2 := HB2.out.size
  go_loopw [5, 6, 7, 8, 9, 10, 11, 12, 54] (fun a b c d e f g h i wr => ∃ (t : Nat) (xa xb xc xd xe xf xg xh : BitVec 32), t ≤ 64 ∧ RN t = [xa, xb, xc, xd, xe, xf, xg, xh] ∧ But (fun _ => False) w2 wr ∧ a = .int .u32 (nt xa) ∧ b = .int .u32 (nt xb) ∧ c = .int .u32 (nt xc) ∧ d = .int .u32 (nt xd) ∧ e = .int .u32 (nt xe) ∧ f = .int .u32 (nt xf) ∧ g = .int .u32 (nt xg) ∧ h = .int .u32 (nt xh) ∧ i = .int .i64 t) (fun _ _ _ _ _ _ _ _ i _ => 64 - (intOf i).toNat)
  case atStart => exact ⟨0, l0, l1, l2, l3, l4, l5, l6, l7, by decide, HR0.out, (But.refl _ w2).drewN, rfl, rfl, rfl, rfl, rfl, rfl, rfl, rfl, rfl⟩
  case round =>
    obtain ⟨t, xa, xb, xc, xd, xe, xf, xg, xh, ht, hrn, hbt, rfl, rfl, rfl, rfl, rfl, rfl, rfl, rfl, rfl⟩ := hrel
    have HBT := Hid.mk' hbt
    have HRT := Hid.mk' hrn
    clear hbt hrn
    by_cases h64 : t < 64
    · have kc : wr.cell? ⟨2, t, none⟩ = some (.int .u32 (nt (kws.getD t 0) : Int)) := (HK.out.but (HB2.out.trans HBT.out) (fun h => h)) t h64
      have hci := idx_u32 73 64 Tryd.underlying73 C t _ h64 (HCI.out t h64)
      have hn := HRN.out t
      rw [HRT.out] at hn
      have HN := Hid.mk' hn
      clear hn
      have h64i : (t : Int) < 64 := by omega
      generalize kws.getD t 0 = kk at *
      generalize W.getD t 0 = ww at *
      go_wp2
      go_quiet ((go_at_call 49; refine Calls.quiet_of_same (srotr_any _ _ (by decide) (by decide) _)))
      have ht1 : ((((nt xh : Int) + bits .xor .u32 (bits .xor .u32 (nt (xe.rotateRight 6) : Int) (nt (xe.rotateRight 11) : Int)) (nt (xe.rotateRight 25) : Int) + bits .xor .u32 (bits .and .u32 (nt xe : Int) (nt xf : Int)) (bits .and .u32 (bits .xor .u32 (if IntKind.u32.signed = true then -1 else IntKind.u32.max) (nt xe : Int)) (nt xg : Int)) + (nt kk : Int)) % 4294967296 + (nt ww : Int)) % 4294967296) = (nt (xh + bs1 xe + cho xe xf xg + kk + ww) : Int) := by
        rw [ones_nt, xor_nt, xor_nt, and_nt, and_nt, xor_nt, ← add_ntm, ← add_ntm, ← add_ntm, ← add_ntm]
        simp only [bs1, cho]
        omega
      rw [ht1]
      have HT1 : Hid (xh + bs1 xe + cho xe xf xg + kk + ww = xh + (xe.rotateRight 6 ^^^ xe.rotateRight 11 ^^^ xe.rotateRight 25) + ((xe &&& xf) ^^^ (~~~xe &&& xg)) + kk + ww) := rfl
      generalize xh + bs1 xe + cho xe xf xg + kk + ww = t1 at *
      clear ht1 hci kc
      have hs2 : bits .xor .u32 (bits .xor .u32 (nt (xa.rotateRight 2) : Int) (nt (xa.rotateRight 13) : Int)) (nt (xa.rotateRight 22) : Int) = (nt (bs0 xa) : Int) := by
        rw [xor_nt, xor_nt]; rfl
      have hmj : bits .xor .u32 (bits .xor .u32 (bits .and .u32 (nt xa : Int) (nt xb : Int)) (bits .and .u32 (nt xa : Int) (nt xc : Int))) (bits .and .u32 (nt xb : Int) (nt xc : Int)) = (nt (maj xa xb xc) : Int) := by
        rw [and_nt, and_nt, and_nt, xor_nt, xor_nt]; rfl
      have ha2 := add_ntm (bs0 xa) (maj xa xb xc)
      have HT2 : Hid (bs0 xa + maj xa xb xc = (xa.rotateRight 2 ^^^ xa.rotateRight 13 ^^^ xa.rotateRight 22) + ((xa &&& xb) ^^^ (xa &&& xc) ^^^ (xb &&& xc))) := rfl
      generalize bs0 xa + maj xa xb xc = t2 at *
      have ha3 := add_ntm xd t1
      have ha4 := add_ntm t1 t2
      go_wp2_with (go_at_call 49; refine Calls.mono (srotr_any _ _ (by decide) (by decide) _) ?_; rintro e w' ⟨rfl, rfl⟩)
      refine ⟨⟨t + 1, t1 + t2, xa, xb, xc, xd + t1, xe, xf, xg, by omega, ?_, HBT.out.drewN, by rw [ha4], rfl, rfl, rfl, by rw [ha3], rfl, rfl, rfl, by go_num⟩, by simp [intOf]; omega⟩
      rw [HN.out, HT1.out, HT2.out]; rfl
    · have hge : ¬ ((t : Int) < 64) := by omega
      have ht64 : t = 64 := by omega
      rw [ht64] at HRT
      obtain ⟨t0, ht0⟩ : ∃ t0, t0 = t := ⟨_, rfl⟩
      rw [← ht0] at hge ⊢
      clear ht0 h64 ht ht64 HRN HCI
      obtain ⟨wm, hwm⟩ : ∃ wm, wm = wr := ⟨_, rfl⟩
      subst hwm
      have HSm := Hid.mk' (HSq.out.but HBT.out (fun h => h))
      have HBm := Hid.mk' (HB2.out.trans HBT.out)
      go_wp2
      have HV8 : Hid ([xa, xb, xc, xd, xe, xf, xg, xh].length = 8) := rfl
      have HVI : Hid (∀ k, k < 8 → (#[.int .u32 (nt xa), .int .u32 (nt xb), .int .u32 (nt xc), .int .u32 (nt xd), .int .u32 (nt xe), .int .u32 (nt xf), .int .u32 (nt xg), .int .u32 (nt xh)] : Array Value)[k]? = some (.int .u32 (nt ([xa, xb, xc, xd, xe, xf, xg, xh].getD k 0) : Int))) := by
        intro k hk
        match k, hk with
        | 0, _ => rfl
        | 1, _ => rfl
        | 2, _ => rfl
        | 3, _ => rfl
        | 4, _ => rfl
        | 5, _ => rfl
        | 6, _ => rfl
        | 7, _ => rfl
      obtain ⟨V, hV⟩ : ∃ V, V = [xa, xb, xc, xd, xe, xf, xg, xh] := ⟨_, rfl⟩
      rw [← hV] at HRT HV8 HVI
      clear hV
      have HIX : Hid (∀ k : Nat, k < 8 → ∀ w, (Instr.index 75 (.agg #[.int .u32 (nt xa), .int .u32 (nt xb), .int .u32 (nt xc), .int .u32 (nt xd), .int .u32 (nt xe), .int .u32 (nt xf), .int .u32 (nt xg), .int .u32 (nt xh)]) (.int .i64 (k : Int))).run Tryd.prog w = .ok (.int .u32 (nt (V.getD k 0) : Int)) w) :=
        fun k hk => idx_u32 75 8 Tryd.underlying75 _ k _ hk (HVI.out k hk)
      go_loopw [125] (fun i wr => ∃ k : Nat, k ≤ 8 ∧ i = .int .i64 k ∧ Sq wr g T ((List.zipWith (· + ·) l V).take k ++ l.drop k) (u8s z ++ X) ∧ But (· = g) wm wr) (fun i _ => 8 - (intOf i).toNat)
      case atStart => exact ⟨0, by decide, rfl, by simpa using HSm.out, But.refl _ _⟩
      case round =>
        obtain ⟨k, hk, rfl, hsq, hbk⟩ := hrel
        by_cases h8 : k < 8
        · have hix := HIX.out k h8
          have hcell := hsq.cell k (by rw [zip_len l V k HLL.out HV8.out hk]; exact h8)
          rw [zip_get l V k HLL.out HV8.out h8] at hcell
          have hfr := hsq.free k
          have HSK := Hid.mk' hsq
          have HBK := Hid.mk' hbk
          have HZ := Hid.mk' (zip_take l V k HLL.out HV8.out h8)
          have hadd := add_ntm (l.getD k 0) (V.getD k 0)
          clear hsq hbk
          generalize l.getD k 0 = lk at *
          generalize V.getD k 0 = vk at *
          have h8i : (k : Int) < 8 := by omega
          go_wp2
          go_region
          rw [hadd]
          go_wp2
          refine ⟨⟨k + 1, by omega, by go_num, ?_, (HBK.out.setCell (fun _ => rfl) _).drew⟩, by simp [intOf]; omega⟩
          have hs := HSK.out.set k (by rw [zip_len l V k HLL.out HV8.out hk]; exact h8) (lk + vk)
          rw [HZ.out] at hs
          exact hs
        · have hk8 : k = 8 := by omega
          have hge8 : ¬ ((k : Int) < 8) := by omega
          have e8 : (List.zipWith (· + ·) l V).take k ++ l.drop k = comp (blkw z 0) l := by
            rw [hk8, HC8.out, HRT.out, List.take_of_length_le (by simp [HLL.out, HV8.out]), List.drop_of_length_le (by simp [HLL.out]), List.append_nil]
          rw [e8] at hsq
          have HSK := Hid.mk' hsq
          have HBF := Hid.mk' ((HBm.out.mono (S := (· = g)) (fun _ _ h => h.elim)).trans hbk)
          clear hsq hbk hk8 e8 h8 hk
          go_wp2
          go_end0
          exact ⟨rfl, HSK.out, HBF.out⟩
end Go.Proofs.YthpgjbblbhjndaaDoor
