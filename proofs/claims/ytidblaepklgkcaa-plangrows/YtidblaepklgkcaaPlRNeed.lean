/- The reference's Need. -/
import Derived.Test.YtidblaepklgkcaaPlRPath
import Derived.Test.YtidblaepklgkcaaPlSet
import Derived.Test.YtidblaepklgkcaaPlMake
namespace Go.Proofs.Ytidblaepklgkcaa
open Go.RowKit

theorem infBoo : (Try.prog.info? 4).map (fun i => (i.zero, i.size, i.bytes)) = some (some (.bool false), 1, 1) := by kernel_rfl
theorem iBoo : (Try.prog.info? 4).map (·.size) = some 1 := by kernel_rfl
/-- Which blocks were seen. -/
def seenL (h : Nat) (S : List Int) : List Value := (List.range h).map fun (i : Nat) => Value.bool (decide ((i : Int) ∈ S))
theorem seenL_nil (h : Nat) : seenL h [] = List.replicate h (.bool false) := by
  unfold seenL
  apply List.ext_getElem?
  intro i
  by_cases hi : i < h
  · simp [hi]
  · rw [List.getElem?_eq_none (by simp; omega), List.getElem?_eq_none (by simp; omega)]
theorem seenL_at {h : Nat} {S : List Int} {y : Int} (h0 : 0 ≤ y) (h1 : y < (h : Int)) : (seenL h S)[y.toNat]? = some (.bool (decide (y ∈ S))) := by
  unfold seenL
  rw [List.getElem?_map, List.getElem?_range (by omega)]
  simp [Int.toNat_of_nonneg h0]
theorem seenL_set {h : Nat} {S : List Int} {y : Int} (h0 : 0 ≤ y) : (seenL h S).set y.toNat (.bool true) = seenL h (ins S y) := by
  unfold seenL
  apply List.ext_getElem?
  intro i
  rw [List.getElem?_set]
  by_cases hi : i < h
  · by_cases e : y.toNat = i
    · rw [if_pos e, if_pos (by simpa [e] using hi)]
      have hy : ((i : Nat) : Int) = y := by omega
      have hm : ((i : Nat) : Int) ∈ ins S y := mem_ins.2 (.inr hy)
      simp [hi, hm]
    · rw [if_neg e]
      have hy : ((i : Nat) : Int) ≠ y := by omega
      have hm : ((i : Nat) : Int) ∈ ins S y ↔ ((i : Nat) : Int) ∈ S := by rw [mem_ins]; simp [hy]
      simp [hi, hm]
  · rw [List.getElem?_eq_none (by simp; omega)]
    rw [List.getElem?_eq_none (l := (List.range h).map fun (i : Nat) => Value.bool (decide ((i : Int) ∈ ins S y))) (by simp; omega)]
    split
    · rw [if_neg (by simp; omega)]
    · rfl
/-- What memory is amid the reference's Need. -/
structure RnM (w wr : World) (gp gs h : Nat) (p : Pn) (v : Value) (S : List Int) : Prop where
  box : Blk wr gp 42 (pcells p v)
  seen : Blk wr gs 4 (seenL h S)
  grow : Grow w wr
  ne : gp ≠ gs ∧ w.heap.size ≤ gs
theorem RnM.then {w wr w' : World} {gp gs h : Nat} {p : Pn} {v : Value} {S : List Int} (k : RnM w wr gp gs h p v S) (g : Grow wr w') : RnM w w' gp gs h p v S :=
  ⟨k.box.but g (fun h => h), k.seen.but g (fun h => h), k.grow.trans g, k.ne⟩
theorem RnM.put {w wr w' : World} {gp gs h : Nat} {p : Pn} {v : Value} {S S' : List Int} (k : RnM w wr gp gs h p v S) (hb : Blk w' gs 4 (seenL h S')) (g : But (· = gs) wr w') : RnM w w' gp gs h p v S' :=
  ⟨k.box.but g k.ne.1, hb, k.grow.then g (fun j hj e => by have := k.ne.2; omega), k.ne⟩
theorem ins_len (S : List Int) (x : Int) : (ins S x).length = S.length + if x ∈ S then 0 else 1 := by
  unfold ins
  split <;> simp
set_option maxRecDepth 100000 in
set_option maxHeartbeats 4000000 in
theorem rneed_any (w : World) (p : Pn) (v u : Value) (xs : List Int) (hm : Mad p) (hv : Nums w v p.levels) (hu : Nums w u xs) (hxl : xs.length ≤ 1000) : Calls Try.prog 28 #[pval p v, u] w fun e w' => e = .returned (.int .i64 ((xs.foldl (raddP p) []).length : Int)) ∧ Grow w w' := by
  obtain ⟨W, gp, hbx⟩ := box_pl w p v
  have HW := Hid.mk' hbx.ew
  have HGP := Hid.mk' hbx.eg
  have HBX := Hid.mk' hbx
  have HV := Hid.mk' hv
  have HMA := Hid.mk' hm
  have HU := Hid.mk' hu
  have hpg := hm.pg
  have hhd := hm.hd
  have hct := hm.c1
  have hnd := hm.nd
  have hsm := hm.sum
  have hsp := (hm.lv.pos hct.1).2
  obtain ⟨h, hh⟩ : ∃ h : Nat, (h : Int) = p.head := ⟨p.head.toNat, by omega⟩
  have hh1 : h ≤ 5000 := by omega
  have HH : Hid ((h : Int) = p.head ∧ p.pages ≤ p.head) := Hid.mk' ⟨hh, by omega⟩
  have c5 : W.cell? ⟨gp, 5, none⟩ = some (.int .i64 (h : Int)) := by rw [hh]; exact hbx.blk.cell 5
  have HMK := Hid.mk' (make_row (t := 92) Try.underlying92 infBoo rfl (by decide) W h (by omega))
  obtain ⟨gs, hgs⟩ : ∃ g, g = W.heap.size := ⟨_, rfl⟩
  obtain ⟨W2, hW2⟩ : ∃ W2, W2 = W.alloc (.cells (List.replicate h (.bool false)).toArray 4) := ⟨_, rfl⟩
  rw [← hgs, ← hW2] at HMK
  have hg2 : Grow W W2 := by rw [hW2]; exact (But.refl _ W).alloc _
  have HM0 : Hid (RnM w W2 gp gs h p v []) := Hid.mk' ⟨hbx.blk.but hg2 (fun h => h), by rw [hW2, seenL_nil]; exact Blk.new hgs.symm, hbx.grow.trans hg2, by have := hbx.blk.lt; omega, by have := hbx.grow.size; omega⟩
  obtain ⟨ua, uc, hue⟩ := hu.len
  obtain ⟨n, hn⟩ : ∃ n, n = xs.length := ⟨_, rfl⟩
  rw [← hn] at hue
  have HNN := Hid.mk' hn
  have hni : (n : Int) ≤ 1000 := by omega
  have hhi : (h : Int) ≤ 5000 := by omega
  obtain ⟨R, hR⟩ : ∃ R : Int, R = ((xs.foldl (raddP p) []).length : Int) := ⟨_, rfl⟩
  rw [← hR]
  have HR := Hid.mk' hR
  have HJ : Hid (∀ i, ((xs.take i).foldl (raddP p) []).length ≤ 5000) := fun i => by
    have hj := just_radd p (xs.take i)
    have h9 := nodup_len hj.1 (m := (List.range h).map (fun i => ((i : Nat) : Int))) (fun y hy => by
      obtain ⟨x, -, h1, h2⟩ := (hj.2 y).1 hy
      have h3 := of_decide_eq_true h1
      refine List.mem_map.2 ⟨y.toNat, List.mem_range.2 ?_, ?_⟩
      · rcases h2 with h2 | h2
        · omega
        · have := (hm.path h1).2.ge y h2; omega
      · rcases h2 with h2 | h2
        · omega
        · have := (hm.path h1).2.ge y h2; omega)
    rw [List.length_map, List.length_range] at h9
    omega
  unfold pval
  obtain ⟨N, hN⟩ : ∃ N, N = (pcells p v).toArray := ⟨_, rfl⟩
  rw [← hN] at HW ⊢
  have HNE := Hid.mk' hN
  clear hbx hN hv hm hu hxl hpg hhd hct hnd hsm hsp hh hh1 hgs hW2 hg2 hn hR
  subst hue
  go_enter Try.func28, Try.ntmps28
  go_upto_region 1 with fail
  rw [← HW.out, ← HGP.out]
  clear HW HGP
  go_wp2_with (first
    | (refine wpList_runH rfl (exec_mkS (t := 92) (u := .int .i64 (h : Int)) (v := .int .i64 (h : Int)) (r := .slice (some ⟨gs, 0, none⟩) h h) (w' := W2) rfl rfl rfl HMK.out) ?_)
    | fail)
  clear HMK c5
  go_loopw [6, 7] (fun nv iv wr => ∃ i : Nat, i ≤ n ∧ iv = .int .i64 i ∧ nv = .int .i64 (((xs.take i).foldl (raddP p) []).length : Int) ∧ RnM w wr gp gs h p v ((xs.take i).foldl (raddP p) [])) (fun _ iv _ => n - (intOf iv).toNat)
  case atStart => exact ⟨0, Nat.zero_le _, rfl, rfl, HM0.out⟩
  case round =>
    clear HM0
    obtain ⟨i, hin, rfl, rfl, hM⟩ := hrel
    have HM := Hid.mk' hM
    clear hM
    by_cases hlt : i < n
    · have hlti : (i : Int) < (n : Int) := by omega
      obtain ⟨bb, o1, k1, e3, -, -, hc1⟩ := (HU.out.grow HM.out.grow).at (by have := HNN.out; omega)
      simp only [Value.slice.injEq] at e3
      obtain ⟨rfl, -, rfl⟩ := e3
      obtain ⟨x, hx⟩ : ∃ x, x = xs.getD i 0 := ⟨_, rfl⟩
      have cu := hc1 i (by have := HNN.out; omega)
      rw [← hx] at cu
      have hxg : xs[i]? = some x := by
        have h9 : i < xs.length := by have := HNN.out; omega
        rw [hx, List.getD_eq_getElem?_getD, List.getElem?_eq_getElem h9]; rfl
      have HFT := Hid.mk' (fold_take (raddP p) [] xs i x hxg)
      have hSb := HJ.out i
      have HSB' := Hid.mk' (HJ.out (i + 1))
      generalize (xs.take i).foldl (raddP p) [] = S at HM HFT hSb
      have HLT := Hid.mk' hlt
      have HCU := Hid.mk' cu
      obtain ⟨sl, hsl⟩ : ∃ n, n = S.length := ⟨_, rfl⟩
      rw [← hsl] at hSb
      have hslb : (sl : Int) ≤ 5000 := by omega
      have HSL := Hid.mk' hsl
      rw [← hsl]
      clear hc1 hx hxg hin hlt cu hSb hsl
      cases hh : p.has x with
      | false =>
        have HFE : Hid ((xs.take (i + 1)).foldl (raddP p) [] = S) := Hid.mk' (by rw [HFT.out]; unfold raddP; rw [hh]; rfl)
        have HPT : Hid (∀ wz, Calls Try.prog 26 #[pval p v, .int .i64 x] wz fun e w' => e = .returned (.tuple #[noS, .int .i64 1]) ∧ Grow wz w') := fun wz => rpath_not wz p v x hh
        clear hh
        go_upto_region 6 with fail
        refine region_chain [] [0, 1, 2, 3, 4, 5, 6, 7, 8, 9, 10] (Grow wr) (Grow wr) (by kernel_rfl) (by kernel_rfl) (fun _ _ h k => h.trans k) (fun _ h => h) ((But.refl _ wr).drew) ?_
        intro ι hne X hX
        have dx : ∀ q, (X q).cell? ⟨bb, o1 + i, none⟩ = some (.int .i64 x) := fun q => grow_cell (hX q) HCU.out
        refine still_val rfl (pval p v) rfl (fun q => exec_ldF (cs := pcells p v) Try.underlying42 rfl iPl (HM.out.then (hX q)).box.pl rfl rfl) ?_
        intro K hK; go_simp; refine hK _ ?_; clear hK K
        iterate 4 (refine still_step rfl (fun K hK => ?_); go_simp; refine hK _ ?_; clear hK K)
        refine still_call rfl (.tuple #[noS, .int .i64 1]) 26 #[pval p v, .int .i64 x] rfl (fun q => by kernel_rfl) (fun q => HPT.out _) ?_
        intro K hK; go_simp; refine hK _ ?_; clear hK K
        iterate 5 (refine still_step rfl (fun K hK => ?_); go_simp; refine hK _ ?_; clear hK K)
        refine still_nil ?_
        clear hX hne dx
        intro w4 hw4
        have HM4 := Hid.mk' (HM.out.then hw4)
        clear hw4
        go_wp2
        exact ⟨⟨i + 1, by have := HLT.out; omega, by go_num, by rw [HFE.out, ← HSL.out], by rw [HFE.out]; exact HM4.out⟩, by simp [intOf]; have := HLT.out; omega⟩
      | true =>
        have hpth := HMA.out.path hh
        have hx0 := of_decide_eq_true hh
        obtain ⟨PA, hPA⟩ : ∃ l, l = p.path x := ⟨_, rfl⟩
        have HPT : Hid (∀ wz, Grow w wz → Calls Try.prog 26 #[pval p v, .int .i64 x] wz (PathTo wz PA)) := fun wz kk => by
          rw [hPA]
          exact rpath_any wz p v x HMA.out hh (HV.out.grow kk)
        rw [← hPA] at hpth
        have HPL : Hid (PA.length ≤ 4) := Hid.mk' (by have := hpth.2.len; have := HMA.out.len; omega)
        have HLB : Hid (∀ y ∈ PA ++ [x], 0 ≤ y ∧ y < (h : Int)) := fun y hy => by
          have h1 := HH.out
          have h2 := HMA.out.pg
          rcases List.mem_append.1 hy with hy | hy
          · have := hpth.2.ge y hy
            omega
          · rw [show y = x by simpa using hy]
            omega
        have HFE : Hid ((xs.take (i + 1)).foldl (raddP p) [] = adds S (PA ++ [x])) := Hid.mk' (by rw [HFT.out]; unfold raddP; rw [hh, if_pos rfl, hPA])
        clear hh hpth hx0 hPA
        go_upto_region 6 with fail
        refine region_chain [([0, 1, 2, 3, 4], 5)] [6, 7, 8, 9, 10] (Grow wr) (Grow wr) (by kernel_rfl) (by kernel_rfl) (fun _ _ h k => h.trans k) (fun _ h => h) ((But.refl _ wr).drew) ?_
        intro ι hne X hX
        have dx : ∀ q, (X q).cell? ⟨bb, o1 + i, none⟩ = some (.int .i64 x) := fun q => grow_cell (hX q) HCU.out
        refine still_val rfl (pval p v) rfl (fun q => exec_ldF (cs := pcells p v) Try.underlying42 rfl iPl (HM.out.then (hX q)).box.pl rfl rfl) ?_
        intro K hK; go_simp; refine hK _ ?_; clear hK K
        iterate 4 (refine still_step rfl (fun K hK => ?_); go_simp; refine hK _ ?_; clear hK K)
        refine still_nil ?_
        clear dx hX hne X ι
        refine turn_call rfl rfl (fun r w' => ∃ (a : Option Addr) (n c : Nat), r = .tuple #[.slice a n c, .int .i64 0] ∧ Own wr w' (.slice a n c) PA ∧ Grow wr w') (fun r w' => ∃ (a : Option Addr) (n c : Nat), r = .tuple #[.slice a n c, .int .i64 0] ∧ Own wr w' (.slice a n c) PA ∧ Grow wr w') (fun r w w' h k => by
          obtain ⟨a, n, c, h1, h2, h3⟩ := h
          exact ⟨a, n, c, h1, h2.grow k, h3.trans k⟩) (fun _ _ h => h) (.inr (fun r w h => by
          obtain ⟨a, n, c, h1, h2, h3⟩ := h
          exact h3)) 26 #[pval p v, .int .i64 x] (fun _ => by kernel_rfl) (fun wz hk => Calls.mono (HPT.out wz (HM.out.grow.trans hk)) (fun e w' h => by
          obtain ⟨r, h1, h2, h3⟩ := h
          obtain ⟨a, c, hr⟩ := h2.sl
          subst hr
          exact ⟨_, h1, a, _, c, rfl, ⟨h2.row, fun k hk2 => Nat.le_trans hk.size (h2.new k hk2)⟩, hk.trans h3⟩)) ?_
        rintro v6 ⟨w6', a6, n6, c6, rfl, ho6', -⟩ Y hY
        go_simp
        refine hY _ ?_
        clear hY Y
        intro ι hne X hX
        iterate 5 (refine still_step rfl (fun K hK => ?_); go_simp; refine hK _ ?_; clear hK K)
        refine still_nil ?_
        clear hX hne X ι ho6' w6'
        rintro w6 ⟨a6', n6', c6', he6, ho6, hg6⟩
        simp only [Value.tuple.injEq, Array.mk.injEq, List.cons.injEq, Value.slice.injEq, and_true] at he6
        obtain ⟨rfl, rfl, rfl⟩ := he6
        have HM6 := Hid.mk' (HM.out.then hg6)
        have hn6 : n6 = PA.length := by
          obtain ⟨a, c, hr⟩ := ho6.sl
          simp only [Value.slice.injEq] at hr
          exact hr.2.1
        have HO6 := Hid.mk' ho6
        have HN6 := Hid.mk' hn6
        have HG6 := Hid.mk' hg6
        have c6x := grow_cell hg6 HCU.out
        have HAL : Hid (Grow w6 (w6.alloc (.cells #[.int .i64 x] 3))) := (But.refl _ w6).alloc _
        have HBL : Hid (Blk (w6.alloc (.cells #[.int .i64 x] 3)) w6.heap.size 3 (numv [x])) := Blk.new (L := numv [x]) rfl
        have HRW : Hid (w6.ownsRow 0 3 1 (.slice a6 n6 c6) n6 (numv PA)) := Hid.mk' (by rw [hn6]; exact hn6 ▸ ho6.row)
        clear hn6 ho6 hg6
        go_upto_region 9 with (first
          | (refine wpList_runH rfl (exec_row1 (v := .int .i64 x) Try.underlying34 infNum (by decide) (by decide) rfl rfl rfl) ?_)
          | (refine wpList_someH rfl (exec_append (v := .slice a6 n6 c6) (n := n6) (xs := numv PA) (news := numv [x]) Try.underlying34 infNum rfl (by decide) rfl rfl (ownsRow_grow HRW.out HAL.out) rfl rfl (fun j u hj => HBL.out.cells0 j u hj) (fun u hu => by rw [show u = .int .i64 x by simpa [numv] using hu]; rfl) (by have := HN6.out; have := HPL.out; omega) (by decide)) ?_; intro v8 w8 hap)
          | fail)
        have hap' : Appd (w6.alloc (.cells #[.int .i64 x] 3)) w8 3 1 (.slice a6 n6 c6) v8 (PA.length + 1) (numv PA ++ numv [x]) := by rw [← HN6.out]; exact hap
        have hmore := (HO6.out.grow HAL.out).more hap' (HG6.out.trans HAL.out)
        have HM8 := Hid.mk' (HM.out.then hmore.2)
        obtain ⟨L, hL⟩ : ∃ L, L = PA ++ [x] := ⟨_, rfl⟩
        rw [← hL] at hmore HLB HFE
        have HLN : Hid (L.length ≤ 5 ∧ 1 ≤ L.length) := Hid.mk' (by rw [hL, List.length_append, List.length_singleton]; have := HPL.out; omega)
        obtain ⟨a8, c8, hr8⟩ := hmore.1.sl
        obtain ⟨m, hmm⟩ : ∃ m, m = L.length := ⟨_, rfl⟩
        rw [← hmm] at hr8 HLN
        have HMM := Hid.mk' hmm
        subst hr8
        have HO8 := Hid.mk' hmore.1
        have hmi : (m : Int) ≤ 5 := by have := HLN.out; omega
        have HNS : Hid (∀ k, (Value.slice a8 m c8).ownBlock = some k → ¬ k = gs) := fun k hk e => by
          have h1 := hmore.1.new k hk
          have h2 := HM.out.seen.lt
          omega
        have HTB : Hid (∀ k, (adds S (L.take k)).length ≤ 6000) := fun k => by
          have h1 : ∀ (ds S : List Int), (adds S ds).length ≤ S.length + ds.length := by
            intro ds
            induction ds with
            | nil => intro S; exact Nat.le_refl _
            | cons y t ih =>
              intro S
              have h2 := ih (ins S y)
              rw [ins_len] at h2
              show (adds (ins S y) t).length ≤ _
              rw [List.length_cons]
              split at h2 <;> omega
          have h3 := h1 (L.take k) S
          have h4 : (L.take k).length ≤ L.length := by rw [List.length_take]; omega
          have := HSL.out
          have := HLN.out
          omega
        clear hap hap' hmore hL hmm HM6 HO6 HN6 HG6 c6x HAL HBL HRW HPT HPL HFT
        go_wp2
        have HIN : Hid (RnM w w8 gp gs h p v (adds S (L.take 0))) := HM8.out
        go_loopw [6, 10] (fun nv kv wz => ∃ k : Nat, k ≤ m ∧ kv = .int .i64 k ∧ nv = .int .i64 ((adds S (L.take k)).length : Int) ∧ RnM w wz gp gs h p v (adds S (L.take k)) ∧ But (· = gs) w8 wz) (fun _ kv _ => m - (intOf kv).toNat)
        case atStart => exact ⟨0, Nat.zero_le _, rfl, by show Value.int .i64 (sl : Int) = Value.int .i64 ((adds S []).length : Int); rw [HSL.out]; rfl, HIN.out, But.refl _ _⟩
        case round =>
          clear HIN HM8
          obtain ⟨k, hkm, rfl, rfl, hMz, hbz⟩ := hrel
          have HMZ := Hid.mk' hMz
          have HBZ := Hid.mk' hbz
          by_cases hk : k < m
          · have hki : (k : Int) < (m : Int) := by omega
            have hkl : k < L.length := by have := HMM.out; omega
            obtain ⟨y, hy⟩ : ∃ y, L[k]? = some y := ⟨_, List.getElem?_eq_getElem hkl⟩
            obtain ⟨b8, q8, e8, hcell⟩ := row_cellP (e := 3) (L := numv L) (by rw [show (numv L).length = L.length from List.length_map ..]; exact ownsRow_but HO8.out.row hbz HNS.out) (by rw [show (numv L).length = L.length from List.length_map ..]; omega)
            rw [show (numv L).length = L.length from List.length_map ..] at e8
            simp only [Value.slice.injEq] at e8
            obtain ⟨rfl, -, rfl⟩ := e8
            have cy := hcell k (.int .i64 y) (by unfold numv; rw [List.getElem?_map, hy]; rfl)
            have hyb := HLB.out y (List.mem_of_getElem? hy)
            have hy0 := hyb.1
            have hy1 := hyb.2
            have hst := adds_more S (L.take k) y
            have htk : L.take (k + 1) = L.take k ++ [y] := by
              have h3 := List.getElem?_eq_some_iff.1 hy
              rw [List.take_succ_eq_append_getElem h3.1, h3.2]
            rw [← htk] at hst
            have HST := Hid.mk' hst
            have hcs : (wr).cell? ⟨gs, y.toNat, none⟩ = some (.bool (decide (y ∈ adds S (L.take k)))) := (hMz.seen.cell y.toNat).trans (seenL_at hy0 hy1)
            have hTB := HTB.out k
            generalize adds S (L.take k) = T at HMZ HST hcs hTB
            obtain ⟨tl, htl⟩ : ∃ n, n = T.length := ⟨_, rfl⟩
            rw [← htl] at hTB
            have htli : (tl : Int) ≤ 6000 := by omega
            have HTL := Hid.mk' htl
            rw [← htl]
            have HK := Hid.mk' hk
            obtain ⟨yn, hyn⟩ : ∃ n : Nat, y = (n : Int) := ⟨y.toNat, by omega⟩
            subst hyn
            rw [Int.toNat_natCast] at hcs
            clear hMz hbz hcell hyb hst htk hkl hy hkm hk hTB htl hy0
            by_cases hin2 : (yn : Int) ∈ T
            · rw [decide_eq_true hin2] at hcs
              have HE : Hid (ins T (yn : Int) = T) := Hid.mk' (by unfold ins; rw [if_pos hin2])
              clear hin2
              go_wp2
              exact ⟨⟨k + 1, by have := HK.out; omega, by go_num, by rw [HST.out, HE.out, HTL.out], by rw [HST.out, HE.out]; exact HMZ.out, HBZ.out⟩, by simp [intOf]; have := HK.out; omega⟩
            · rw [decide_eq_false hin2] at hcs
              have HE : Hid ((ins T (yn : Int)).length = tl + 1) := Hid.mk' (by rw [ins_len, if_neg hin2, HTL.out])
              have HLH : Hid (yn < (seenL h T).length) := Hid.mk' (by unfold seenL; rw [List.length_map, List.length_range]; omega)
              clear hin2
              go_wp2_with (first
                | (refine wpList_store1 (g := gs) (i := yn) (v := .bool true) rfl iBoo rfl (by first | rfl | (rw [Nat.zero_add]; rfl)) rfl rfl HMZ.out.seen HLH.out ?_; intro w9 hb9 hbut9)
                | fail)
              have hb9' : Blk w9 gs 4 (seenL h (ins T (yn : Int))) := by
                have h5 := seenL_set (h := h) (S := T) (y := (yn : Int)) (by omega)
                rw [Int.toNat_natCast] at h5
                rw [← h5]
                exact hb9
              exact ⟨⟨k + 1, by have := HK.out; omega, by go_num, by rw [HST.out, HE.out]; congr 1, by rw [HST.out]; exact HMZ.out.put hb9' hbut9, HBZ.out.trans hbut9⟩, by simp [intOf]; have := HK.out; omega⟩
          · have hke : k = m := by omega
            have hki : ¬ (k : Int) < (m : Int) := by omega
            have hT : adds S (L.take k) = (xs.take (i + 1)).foldl (raddP p) [] := by rw [HFE.out, hke, HMM.out, List.take_of_length_le (Nat.le_refl _)]
            rw [hT] at HMZ
            have HTE := Hid.mk' hT
            clear hMz hbz hke hT hkm hk
            go_wp2
            exact ⟨⟨i + 1, by have := HLT.out; omega, by go_num, by rw [HTE.out], HMZ.out⟩, by simp [intOf]; have := HLT.out; omega⟩
    · have hie : i = n := by omega
      have hlti : ¬ (i : Int) < (n : Int) := by omega
      have HE : Hid ((((xs.take i).foldl (raddP p) []).length : Int) = R) := Hid.mk' (by rw [hie, HNN.out, List.take_of_length_le (Nat.le_refl _), HR.out])
      clear hie hin hlt
      go_wp2
      go_ret
      exact ⟨by rw [← HE.out]; rfl, HM.out.grow⟩
end Go.Proofs.Ytidblaepklgkcaa
