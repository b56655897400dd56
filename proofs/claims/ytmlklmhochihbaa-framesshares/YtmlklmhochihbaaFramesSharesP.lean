/- For any number and any acts: however frames are reserved, never more are than there are; as long as each task has pinned fewer keys than it has reserved, there is room. No condition. -/
import Derived.Test.YtmlklmhochihbaaFrShW
namespace Go.Proofs.Ytmlklmhochihbaa
open Go.ChangeShapes Go.WideShapes Go.ChangeAt Go.RowKit

def psum (H : Nat → Int) : Nat → Int
  | 0 => 0
  | k + 1 => psum H k + H k
theorem psum_five (H : Nat → Int) : psum H 5 = sum5 H := by
  show 0 + H 0 + H 1 + H 2 + H 3 + H 4 = H 0 + H 1 + H 2 + H 3 + H 4
  omega
theorem psum_le {H : Nat → Int} (h : ∀ t, t < 5 → 0 ≤ H t ∧ H t ≤ 20) : ∀ {k : Nat}, k ≤ 5 → 0 ≤ psum H k ∧ psum H k ≤ (k : Int) * 20 := by
  intro k
  induction k with
  | zero => intro _; exact ⟨Int.le_refl _, by simp [psum]⟩
  | succ k ih =>
    intro hk
    have h1 := ih (by omega)
    have h2 := h k (by omega)
    show 0 ≤ psum H k + H k ∧ psum H k + H k ≤ _
    omega
theorem sum5_nonneg {H : Nat → Int} (h : ∀ t, t < 5 → 0 ≤ H t) : 0 ≤ sum5 H := by
  have a0 := h 0 (by omega); have a1 := h 1 (by omega); have a2 := h 2 (by omega); have a3 := h 3 (by omega); have a4 := h 4 (by omega)
  unfold sum5
  omega
theorem ShW.less {F G : Nat → Prop} {w wr : World} {gt ga gb n i : Nat} {H P : Nat → Int} (h : ShW F w wr gt ga gb n i H P) (hg : ∀ b, G b → F b) (hG : G ga ∧ G gb := by exact ⟨.inl rfl, .inr rfl⟩) : ShW G w wr gt ga gb n i H P := by
  obtain ⟨s, h1, h2⟩ := h.ex
  exact ⟨⟨s, h1.less hg, h2⟩, h.a, h.b, hG.1, hG.2, h.fa.2.2⟩
theorem ShW.next {F : Nat → Prop} {w wr : World} {gt ga gb n i : Nat} {H P : Nat → Int} (h : ShW F w wr gt ga gb n i H P) : ShW F w wr gt ga gb n (i + 1) H P := by
  obtain ⟨s, h1, h2⟩ := h.ex
  exact ⟨⟨s, h1, h2.next⟩, h.a, h.b, h.fa⟩
/-- The act's box joins what is the law's. -/
theorem ShW.box {F : Nat → Prop} {w wr w1 w3 : World} {gt ga gb n i g : Nat} {H P : Nat → Int} (h : ShW F w wr gt ga gb n i H P) (k : Grow wr w1) (hg : g = wr.heap.size) (hl : g < w1.heap.size) (kb : But (· = g) w1 w3) : ShW (fun b => F b ∨ b = g) w w3 gt ga gb n i H P := by
  have hx := h.add (G := fun b => F b ∨ b = g) k (fun b e => e.elim .inl (fun e => .inr ⟨by omega, by omega⟩)) (fun b e => .inl e)
  have hwg := h.wgrow.size
  have h1 := h.a.lt
  have h2 := h.b.lt
  obtain ⟨s, g1, g2⟩ := hx.ex
  exact ⟨⟨s, g1.turn kb (fun b e => ⟨.inr e, by omega⟩), g2⟩, hx.a.but kb (by omega), hx.b.but kb (by omega), hx.fa⟩
theorem sh_done {F : Nat → Prop} {w wr : World} {gt ga gb n i t : Nat} {H P : Nat → Int} (hf : F ga ∧ F gb ∧ ga ≠ gb ∧ w.heap.size ≤ ga ∧ w.heap.size ≤ gb) (h : ∃ s, Fl F w wr gt s ∧ ShI n i s H (setN P t (P t + 1))) (ha : Blk wr ga 48 (arr5 H)) (hb : Blk wr gb 48 (arr5 P)) (ht : t < 5) :
    ShW F w (wr.setCell ⟨gb, t, none⟩ (.int .i64 (P t + 1))) gt ga gb n i H (setN P t (P t + 1)) := by
  obtain ⟨s, h1, h2⟩ := h
  have kk := But.set1 wr gb t (.int .i64 (P t + 1))
  refine ⟨⟨s, h1.turn kk (fun b e => by rw [e]; exact ⟨hf.2.1, hf.2.2.2.2⟩), h2⟩, ha.but kk hf.2.2.1, ?_, hf⟩
  rw [← arr5_set P ht]
  exact hb.set t _
theorem sum5_pos {H : Nat → Int} (h : ∀ t, t < 5 → 0 ≤ H t) {t : Nat} (ht : t < 5) (h0 : 0 < H t) : 0 < sum5 H := by
  have a0 := h 0 (by omega); have a1 := h 1 (by omega); have a2 := h 2 (by omega); have a3 := h 3 (by omega); have a4 := h 4 (by omega)
  unfold sum5
  rcases (by omega : t = 0 ∨ t = 1 ∨ t = 2 ∨ t = 3 ∨ t = 4) with rfl | rfl | rfl | rfl | rfl <;> omega
theorem z5 (w : World) : (zeroValue 48).run Try.prog w = .ok (.agg (arr5 (fun _ => 0)).toArray) w := by kernel_rfl
set_option maxRecDepth 100000 in
set_option maxHeartbeats 8000000 in
theorem framesShares_walk (x : Int) (v1 : Value) (l : Nat) (A : Nat → FA) (w : World) (_ : (Lit.int .i64 x).wf = true) (hv : FActs w w v1 l A) :
    Calls Try.prog 5 #[.int .i64 x, v1] w fun e w' => e = .returned (.bool true) ∧ Below w.heap.size w w' := by
  have HV := Hid.mk' hv
  have HGR := Hid.mk' (fgreat_any hv)
  have hll : (l : Int) ≤ 140737488351232 := by have := hv.1; omega
  obtain ⟨ao, cap, rfl⟩ := hv.len
  obtain ⟨p, hp⟩ : ∃ p : Nat, x % 20 = (p : Int) := ⟨(x % 20).toNat, by have := Int.emod_nonneg x (b := 20) (by decide); omega⟩
  have hp9 : p < 20 := by have := Int.emod_lt_of_pos x (b := 20) (by decide); omega
  obtain ⟨n, hn⟩ : ∃ n : Nat, n = p + 1 := ⟨_, rfl⟩
  have HP := Hid.mk' (pick_any x 20 w (by decide) (by decide))
  rw [hp] at HP
  have e1 : (1 : Int) + (p : Int) = (n : Int) := by omega
  have hn9 : (n : Int) ≤ 20 := by omega
  have HN20 : Hid (n ≤ 20) := by show _ ≤ _; omega
  have HNW := Hid.mk' (fl_new w n (by omega) (by omega))
  clear hv hp hp9 hn
  go_enter Try.func5, Try.ntmps5
  go_wp2_with fail
  refine Calls.mono HGR.out ?_
  rintro e w' ⟨hw, rfl | ⟨rfl, hsm⟩⟩
  · have h2 := hw.symm
    subst h2
    clear hw
    go_wp2_with fail
    refine Calls.mono (awake_any _) ?_
    rintro e wa ⟨rfl, ga⟩
    have HGA := Hid.mk' ga
    clear ga
    go_wp2
    go_ret
    exact ⟨rfl, HGA.out.below (Nat.le_refl _) (fun _ _ h => h)⟩
  have h2 := hw.symm
  subst h2
  have HSM := Hid.mk' hsm
  clear hw hsm HGR
  go_wp2_with fail
  refine Calls.mono HP.out ?_
  rintro e w' ⟨rfl, hw⟩
  have h2 := hw.symm
  subst h2
  clear hw
  go_wp2_with fail
  refine Calls.mono HNW.out ?_
  rintro e w1 ⟨gt, rfl, h1⟩
  obtain ⟨ga, hga⟩ : ∃ ga, ga = w1.heap.size := ⟨_, rfl⟩
  obtain ⟨gb, hgb⟩ : ∃ gb, gb = w1.heap.size + 1 := ⟨_, rfl⟩
  have HGA := Hid.mk' hga
  have HGB := Hid.mk' hgb
  have H2 : Hid (ShW (fun b => b = ga ∨ b = gb) w ((w1.alloc (.cells (arr5 (fun _ => 0)).toArray 48)).alloc (.cells (arr5 (fun _ => 0)).toArray 48)) gt ga gb n 0 (fun _ => 0) (fun _ => 0)) := by
    have k1 : Grow w1 (w1.alloc (.cells (arr5 (fun _ => 0)).toArray 48)) := (But.refl _ _).alloc _
    have b1 : Blk (w1.alloc (.cells (arr5 (fun _ => 0)).toArray 48)) ga 48 (arr5 (fun _ => 0)) := Blk.new hga.symm
    have s1 : (w1.alloc (.cells (arr5 (fun _ => 0)).toArray 48)).heap.size = gb := by simp [hgb]
    generalize w1.alloc (.cells (arr5 (fun _ => 0)).toArray 48) = w2 at *
    have k2 : Grow w2 (w2.alloc (.cells (arr5 (fun _ => 0)).toArray 48)) := (But.refl _ _).alloc _
    have b2 : Blk (w2.alloc (.cells (arr5 (fun _ => 0)).toArray 48)) gb 48 (arr5 (fun _ => 0)) := Blk.new s1
    have hsz := h1.grow.size
    refine ⟨⟨_, h1.add (k1.trans k2) (fun b e => .inr ?_), ShI.new⟩, b1.but k2 (fun h => h), b2, .inl rfl, .inr rfl, by omega, by omega, by omega⟩
    have := b2.lt
    have := (b1.but k2 (fun h => h)).lt
    rcases e with e | e <;> omega
  clear h1 e1 HNW HP hga hgb
  go_wp2
  rw [← HGB.out, ← HGA.out]
  go_loopw [9, 10, 11, 12, 13, 14, 15, 16, 17] (fun iv _ _ _ _ _ _ _ _ wr => ∃ i : Nat, i ≤ l ∧ i ≤ 100 ∧ iv = .int .i64 i ∧ ∃ H P, ShW (fun b => b = ga ∨ b = gb) w wr gt ga gb n i H P) (fun iv _ _ _ _ _ _ _ _ _ => l - (Go.RowKit.intOf iv).toNat)
  case atStart => exact ⟨0, Nat.zero_le _, Nat.zero_le _, rfl, _, _, H2.out⟩
  case round =>
    clear H2
    obtain ⟨i, hil, hi0, rfl, H0, P0, hI⟩ := hrel
    by_cases hlt : i < l ∧ i < 100
    · have hlti : (i : Int) < (l : Int) := by omega
      have hlt2 : (i : Int) < 100 := by omega
      obtain ⟨b, off, cap', e1, hbl, hA⟩ := HV.out.at hlt.1
      simp only [Value.slice.injEq] at e1
      obtain ⟨rfl, -, rfl⟩ := e1
      obtain ⟨hok, hcell⟩ := hA i hlt.1
      have HOK := Hid.mk' hok
      have HONE := Hid.mk' (fac_one hok)
      have HLN := Hid.mk' (HSM.out i hlt.1 (by omega))
      have hwg := hI.wgrow
      have HCW : Hid (∀ c u, (fac (A i))[c]? = some u → wr.cell? ((⟨b, off + i * 6, none⟩ : Addr).add c) = some u) := fun c u hc => by
        rw [addr_add]; exact grow_cell hwg (hcell c u hc)
      obtain ⟨g, hg⟩ : ∃ g, g = wr.heap.size := ⟨_, rfl⟩
      have HG10 := Hid.mk' hg
      have HAL : Hid (Grow wr (wr.alloc (.cells #[.int .i64 0, .int .i64 0, .int .i64 0, .slice none 0 0, .bool false, .float .f64 0] 34))) := (But.refl _ wr).alloc _
      have HBZ : Hid (Blk (wr.alloc (.cells #[.int .i64 0, .int .i64 0, .int .i64 0, .slice none 0 0, .bool false, .float .f64 0] 34)) g 34 [.int .i64 0, .int .i64 0, .int .i64 0, .slice none 0 0, .bool false, .float .f64 0]) := Blk.new (L := [.int .i64 0, .int .i64 0, .int .i64 0, .slice none 0 0, .bool false, .float .f64 0]) hg.symm
      have HI := Hid.mk' hI
      have HLT := Hid.mk' hlt
      clear hI hA hok hcell hwg hbl hg hlt
      go_upto_region 12 with (first
        | (refine wpList_load_cells rfl _ _ rfl ⟨b, off + i * 6, none⟩ rfl (fac (A i)) _ HCW.out Try.underlying34 rfl iFa ?_)
        | (refine wpList_store_at rfl _ _ _ rfl g 0 (fac (A i)) (by rw [HG10.out]; rfl) rfl 34 [] [.int .i64 0, .int .i64 0, .int .i64 0, .slice none 0 0, .bool false, .float .f64 0] [] (by simpa using HBZ.out) rfl rfl iFa HONE.out ?_; intro w3 hb3 hbut3; rw [List.nil_append, List.append_nil] at hb3)
        | fail)
      have HX3 : Hid (ShW (fun b => (b = ga ∨ b = gb) ∨ b = g) w w3 gt ga gb n i H0 P0) := HI.out.box HAL.out HG10.out HBZ.out.lt hbut3
      have HB3 : Hid (Blk w3 g 34 (fac (A i))) := hb3
      have a0 : w3.cell? ⟨g, 0, none⟩ = some (.int .i64 (A i).kind) := hb3.cell 0
      have a1 : w3.cell? ⟨g, 1, none⟩ = some (.int .i64 (A i).task) := hb3.cell 1
      have a2 : w3.cell? ⟨g, 2, none⟩ = some (.int .i64 (A i).key) := hb3.cell 2
      obtain ⟨t, ht⟩ : ∃ t : Nat, (A i).task % 5 = (t : Int) := ⟨((A i).task % 5).toNat, by have := Int.emod_nonneg (A i).task (b := 5) (by decide); omega⟩
      obtain ⟨q, hq⟩ : ∃ q : Nat, (A i).kind % 4 = (q : Int) := ⟨((A i).kind % 4).toNat, by have := Int.emod_nonneg (A i).kind (b := 4) (by decide); omega⟩
      have ht5 : t < 5 := by have := Int.emod_lt_of_pos (A i).task (b := 5) (by decide); omega
      have HT5 := Hid.mk' ht5
      have hti : (t : Int) < 5 := by omega
      have HP5 := Hid.mk' (pick_any (A i).task 5 w3 (by decide) (by decide))
      have HP4 := Hid.mk' (pick_any (A i).kind 4 w3 (by decide) (by decide))
      rw [ht] at HP5
      rw [hq] at HP4
      have HBF := Hid.mk' HOK.out.bs.bf
      have HKEY := Hid.mk' HOK.out.key
      generalize (A i).kind = kd at *
      generalize (A i).task = tk at *
      generalize hKY : (A i).key = KY at *
      rw [← HG10.out]
      clear hb3 hbut3 HAL HBZ HCW ht hq ht5 HI
      go_wp2_with fail
      refine Calls.mono HP5.out ?_
      rintro e w' ⟨rfl, hw⟩
      have h2 := hw.symm
      subst h2
      clear hw
      go_wp2_with fail
      refine Calls.mono HP4.out ?_
      rintro e w' ⟨rfl, hw⟩
      have h2 := hw.symm
      subst h2
      clear hw HP5 HP4
      rcases (by have := q; omega : q = 0 ∨ q = 1 ∨ 2 ≤ q) with hqq | hqq | hqq
      · have hq0 : q = 0 := hqq
        subst hq0
        have HRES := Hid.mk' (sh_reserve HX3.out HT5.out (x := KY))
        go_wp2_with fail
        refine Calls.mono HRES.out ?_
        rintro e w4 ⟨c, rfl, hbut4, hno, hyes⟩
        have hb4 := HB3.out.but hbut4 (fun e => e.2 (.inr rfl))
        have b2 : w4.cell? ⟨g, 2, none⟩ = some (.int .i64 KY) := by rw [← hKY]; exact hb4.cell 2
        by_cases hc : c = 0
        · obtain ⟨hxa, hbl⟩ := hyes hc
          have HX : Hid (ShW (fun b => (b = ga ∨ b = gb) ∨ b = g) w (w4.setCell ⟨ga, t, none⟩ (.int .i64 KY)) gt ga gb n (i + 1) (setN H0 t KY) P0) := hxa.next
          have c1 : w4.cell? ⟨ga, t, none⟩ = some (.int .i64 (H0 t)) := by rw [hbl.cell, arr5_at _ HT5.out]
          have f1 : w4.frozen? ⟨ga, t, none⟩ = false := hbl.free t
          subst hc
          clear hxa hbl hyes hno hbut4 hb4 HRES HX3 HB3
          have HL5 := Hid.mk' (sh_left HX.out)
          have HS5 := Hid.mk' (sh_sum HX.out)
          have HCA : Hid (∀ k, k < 5 → ((w4.setCell ⟨ga, t, none⟩ (.int .i64 KY))).cell? ⟨ga, k, none⟩ = some (.int .i64 ((setN H0 t KY) k))) := fun k hk => by rw [HX.out.a.cell, arr5_at _ hk]
          go_wp2
          go_loopw [15, 14] (fun kv sv wq => ∃ k : Nat, k ≤ 5 ∧ kv = .int .i64 k ∧ sv = .int .i64 (psum (setN H0 t KY) k) ∧ wq = (w4.setCell ⟨ga, t, none⟩ (.int .i64 KY))) (fun kv _ _ => 5 - (Go.RowKit.intOf kv).toNat)
          case atStart => exact ⟨0, Nat.zero_le _, rfl, rfl, rfl⟩
          case round =>
            obtain ⟨k, hk5, rfl, rfl, hwq⟩ := hrel
            by_cases hklt : k < 5
            · have hki : (k : Int) < 5 := by omega
              have ck := HCA.out k hklt
              rw [← hwq] at ck
              have HWQ := Hid.mk' hwq
              clear hwq
              obtain ⟨hb0, hb1⟩ := HS5.out.2 k hklt
              have HPS : Hid (psum (setN H0 t KY) (k + 1) = psum (setN H0 t KY) k + (setN H0 t KY) k) := rfl
              have HPB := Hid.mk' (psum_le (H := (setN H0 t KY)) (fun t ht => ⟨(HS5.out.2 t ht).1, by have := (HS5.out.2 t ht).2; have := HN20.out; omega⟩) (k := k) (by omega))
              obtain ⟨hp0, hp1⟩ := HPB.out
              generalize (setN H0 t KY) k = hk at *
              generalize psum (setN H0 t KY) k = ps at *
              have hn20 := HN20.out
              have hx1 : ¬ (hk < 0) := by omega
              have hx2 : ¬ ((n : Int) < hk) := by omega
              have hp2 : ps ≤ 100 := by omega
              have hh2 : hk ≤ 20 := by omega
              clear hb1 hn20
              go_wp2
              exact ⟨⟨k + 1, by omega, by go_num, by rw [HPS.out], HWQ.out⟩, by simp [Go.RowKit.intOf]; omega⟩
            have hki : ¬ ((k : Int) < 5) := by omega
            obtain rfl : k = 5 := by omega
            have HPE : Hid (psum (setN H0 t KY) 5 = sum5 (setN H0 t KY)) := psum_five (setN H0 t KY)
            rw [HPE.out]
            subst hwq
            obtain ⟨hsn, -⟩ := HS5.out
            have hs0 := sum5_nonneg (H := (setN H0 t KY)) (fun t ht => (HS5.out.2 t ht).1)
            have HVI := Hid.mk' (sh_victim HX.out)
            generalize sum5 (setN H0 t KY) = sm at *
            have hn20 := HN20.out
            have hni : (n : Int) ≤ 20 := by omega
            have hgt : ¬ ((n : Int) < sm) := by omega
            clear hn20
            go_wp2_with fail
            refine Calls.mono HL5.out ?_
            rintro e w7 ⟨rfl, hw⟩
            have h2 := hw.symm
            subst h2
            clear hw
            go_wp2_with fail
            refine Calls.mono HVI.out ?_
            rintro e w8 ⟨⟨kv, cv, rfl, hcv⟩, h8⟩
            have HW8 : Hid (ShW (fun b => b = ga ∨ b = gb) w w8 gt ga gb n (i + 1) (setN H0 t KY) P0) := h8.less (fun b hb => hb.elim (fun e => .inl (.inl e)) (fun e => .inl (.inr e)))
            clear h8 HVI HL5
            by_cases hc12 : cv = 12
            · have hsm : ¬ (0 < sm) := fun e => hcv e hc12
              subst hc12
              clear hcv
              go_wp2
              exact ⟨⟨i + 1, by omega, by omega, by go_num, (setN H0 t KY), P0, HW8.out⟩, by simp [Go.RowKit.intOf]; omega⟩
            · have hcb : (cv == 12) = false := by simpa using hc12
              clear hcv hc12
              go_wp2
              exact ⟨⟨i + 1, by omega, by omega, by go_num, (setN H0 t KY), P0, HW8.out⟩, by simp [Go.RowKit.intOf]; omega⟩
        · have HX : Hid (ShW (fun b => (b = ga ∨ b = gb) ∨ b = g) w w4 gt ga gb n (i + 1) H0 P0) := (hno hc).next
          have hcb : (c == 0) = false := by simpa using hc
          clear hyes hno hbut4 hb4 HRES HX3 HB3 hc
          have HL5 := Hid.mk' (sh_left HX.out)
          have HS5 := Hid.mk' (sh_sum HX.out)
          have HCA : Hid (∀ k, k < 5 → (w4).cell? ⟨ga, k, none⟩ = some (.int .i64 (H0 k))) := fun k hk => by rw [HX.out.a.cell, arr5_at _ hk]
          go_wp2
          go_loopw [15, 14] (fun kv sv wq => ∃ k : Nat, k ≤ 5 ∧ kv = .int .i64 k ∧ sv = .int .i64 (psum H0 k) ∧ wq = w4) (fun kv _ _ => 5 - (Go.RowKit.intOf kv).toNat)
          case atStart => exact ⟨0, Nat.zero_le _, rfl, rfl, rfl⟩
          case round =>
            obtain ⟨k, hk5, rfl, rfl, hwq⟩ := hrel
            by_cases hklt : k < 5
            · have hki : (k : Int) < 5 := by omega
              have ck := HCA.out k hklt
              rw [← hwq] at ck
              have HWQ := Hid.mk' hwq
              clear hwq
              obtain ⟨hb0, hb1⟩ := HS5.out.2 k hklt
              have HPS : Hid (psum H0 (k + 1) = psum H0 k + H0 k) := rfl
              have HPB := Hid.mk' (psum_le (H := H0) (fun t ht => ⟨(HS5.out.2 t ht).1, by have := (HS5.out.2 t ht).2; have := HN20.out; omega⟩) (k := k) (by omega))
              obtain ⟨hp0, hp1⟩ := HPB.out
              generalize H0 k = hk at *
              generalize psum H0 k = ps at *
              have hn20 := HN20.out
              have hx1 : ¬ (hk < 0) := by omega
              have hx2 : ¬ ((n : Int) < hk) := by omega
              have hp2 : ps ≤ 100 := by omega
              have hh2 : hk ≤ 20 := by omega
              clear hb1 hn20
              go_wp2
              exact ⟨⟨k + 1, by omega, by go_num, by rw [HPS.out], HWQ.out⟩, by simp [Go.RowKit.intOf]; omega⟩
            have hki : ¬ ((k : Int) < 5) := by omega
            obtain rfl : k = 5 := by omega
            have HPE : Hid (psum H0 5 = sum5 H0) := psum_five H0
            rw [HPE.out]
            subst hwq
            obtain ⟨hsn, -⟩ := HS5.out
            have hs0 := sum5_nonneg (H := H0) (fun t ht => (HS5.out.2 t ht).1)
            have HVI := Hid.mk' (sh_victim HX.out)
            generalize sum5 H0 = sm at *
            have hn20 := HN20.out
            have hni : (n : Int) ≤ 20 := by omega
            have hgt : ¬ ((n : Int) < sm) := by omega
            clear hn20
            go_wp2_with fail
            refine Calls.mono HL5.out ?_
            rintro e w7 ⟨rfl, hw⟩
            have h2 := hw.symm
            subst h2
            clear hw
            go_wp2_with fail
            refine Calls.mono HVI.out ?_
            rintro e w8 ⟨⟨kv, cv, rfl, hcv⟩, h8⟩
            have HW8 : Hid (ShW (fun b => b = ga ∨ b = gb) w w8 gt ga gb n (i + 1) H0 P0) := h8.less (fun b hb => hb.elim (fun e => .inl (.inl e)) (fun e => .inl (.inr e)))
            clear h8 HVI HL5
            by_cases hc12 : cv = 12
            · have hsm : ¬ (0 < sm) := fun e => hcv e hc12
              subst hc12
              clear hcv
              go_wp2
              exact ⟨⟨i + 1, by omega, by omega, by go_num, H0, P0, HW8.out⟩, by simp [Go.RowKit.intOf]; omega⟩
            · have hcb : (cv == 12) = false := by simpa using hc12
              clear hcv hc12
              go_wp2
              exact ⟨⟨i + 1, by omega, by omega, by go_num, H0, P0, HW8.out⟩, by simp [Go.RowKit.intOf]; omega⟩
      · have hq1 : q = 1 := hqq
        subst hq1
        have HFR := Hid.mk' (sh_free HX3.out HT5.out)
        go_wp2_with fail
        refine Calls.mono HFR.out ?_
        rintro e w4 ⟨rfl, -, hbl, hbl2, hxa⟩
        have c1 : w4.cell? ⟨ga, t, none⟩ = some (.int .i64 (H0 t)) := by rw [hbl.cell, arr5_at _ HT5.out]
        have f1 : w4.frozen? ⟨ga, t, none⟩ = false := hbl.free t
        have c2 : (w4.setCell ⟨ga, t, none⟩ (.int .i64 0)).cell? ⟨gb, t, none⟩ = some (.int .i64 (P0 t)) := by rw [hbl2.cell, arr5_at _ HT5.out]
        have f2 : (w4.setCell ⟨ga, t, none⟩ (.int .i64 0)).frozen? ⟨gb, t, none⟩ = false := hbl2.free t
        have HX : Hid (ShW (fun b => (b = ga ∨ b = gb) ∨ b = g) w ((w4.setCell ⟨ga, t, none⟩ (.int .i64 0)).setCell ⟨gb, t, none⟩ (.int .i64 0)) gt ga gb n (i + 1) (setN H0 t 0) (setN P0 t 0)) := hxa.next
        clear hxa hbl hbl2 HFR HX3 HB3
        have HL5 := Hid.mk' (sh_left HX.out)
        have HS5 := Hid.mk' (sh_sum HX.out)
        have HCA : Hid (∀ k, k < 5 → (((w4.setCell ⟨ga, t, none⟩ (.int .i64 0)).setCell ⟨gb, t, none⟩ (.int .i64 0))).cell? ⟨ga, k, none⟩ = some (.int .i64 ((setN H0 t 0) k))) := fun k hk => by rw [HX.out.a.cell, arr5_at _ hk]
        go_wp2
        go_loopw [15, 14] (fun kv sv wq => ∃ k : Nat, k ≤ 5 ∧ kv = .int .i64 k ∧ sv = .int .i64 (psum (setN H0 t 0) k) ∧ wq = ((w4.setCell ⟨ga, t, none⟩ (.int .i64 0)).setCell ⟨gb, t, none⟩ (.int .i64 0))) (fun kv _ _ => 5 - (Go.RowKit.intOf kv).toNat)
        case atStart => exact ⟨0, Nat.zero_le _, rfl, rfl, rfl⟩
        case round =>
          obtain ⟨k, hk5, rfl, rfl, hwq⟩ := hrel
          by_cases hklt : k < 5
          · have hki : (k : Int) < 5 := by omega
            have ck := HCA.out k hklt
            rw [← hwq] at ck
            have HWQ := Hid.mk' hwq
            clear hwq
            obtain ⟨hb0, hb1⟩ := HS5.out.2 k hklt
            have HPS : Hid (psum (setN H0 t 0) (k + 1) = psum (setN H0 t 0) k + (setN H0 t 0) k) := rfl
            have HPB := Hid.mk' (psum_le (H := (setN H0 t 0)) (fun t ht => ⟨(HS5.out.2 t ht).1, by have := (HS5.out.2 t ht).2; have := HN20.out; omega⟩) (k := k) (by omega))
            obtain ⟨hp0, hp1⟩ := HPB.out
            generalize (setN H0 t 0) k = hk at *
            generalize psum (setN H0 t 0) k = ps at *
            have hn20 := HN20.out
            have hx1 : ¬ (hk < 0) := by omega
            have hx2 : ¬ ((n : Int) < hk) := by omega
            have hp2 : ps ≤ 100 := by omega
            have hh2 : hk ≤ 20 := by omega
            clear hb1 hn20
            go_wp2
            exact ⟨⟨k + 1, by omega, by go_num, by rw [HPS.out], HWQ.out⟩, by simp [Go.RowKit.intOf]; omega⟩
          have hki : ¬ ((k : Int) < 5) := by omega
          obtain rfl : k = 5 := by omega
          have HPE : Hid (psum (setN H0 t 0) 5 = sum5 (setN H0 t 0)) := psum_five (setN H0 t 0)
          rw [HPE.out]
          subst hwq
          obtain ⟨hsn, -⟩ := HS5.out
          have hs0 := sum5_nonneg (H := (setN H0 t 0)) (fun t ht => (HS5.out.2 t ht).1)
          have HVI := Hid.mk' (sh_victim HX.out)
          generalize sum5 (setN H0 t 0) = sm at *
          have hn20 := HN20.out
          have hni : (n : Int) ≤ 20 := by omega
          have hgt : ¬ ((n : Int) < sm) := by omega
          clear hn20
          go_wp2_with fail
          refine Calls.mono HL5.out ?_
          rintro e w7 ⟨rfl, hw⟩
          have h2 := hw.symm
          subst h2
          clear hw
          go_wp2_with fail
          refine Calls.mono HVI.out ?_
          rintro e w8 ⟨⟨kv, cv, rfl, hcv⟩, h8⟩
          have HW8 : Hid (ShW (fun b => b = ga ∨ b = gb) w w8 gt ga gb n (i + 1) (setN H0 t 0) (setN P0 t 0)) := h8.less (fun b hb => hb.elim (fun e => .inl (.inl e)) (fun e => .inl (.inr e)))
          clear h8 HVI HL5
          by_cases hc12 : cv = 12
          · have hsm : ¬ (0 < sm) := fun e => hcv e hc12
            subst hc12
            clear hcv
            go_wp2
            exact ⟨⟨i + 1, by omega, by omega, by go_num, (setN H0 t 0), (setN P0 t 0), HW8.out⟩, by simp [Go.RowKit.intOf]; omega⟩
          · have hcb : (cv == 12) = false := by simpa using hc12
            clear hcv hc12
            go_wp2
            exact ⟨⟨i + 1, by omega, by omega, by go_num, (setN H0 t 0), (setN P0 t 0), HW8.out⟩, by simp [Go.RowKit.intOf]; omega⟩
      · have hq2 : ((q : Int) == 0) = false := by
          have : (q : Int) ≠ 0 := by omega
          simpa using this
        have hq3 : ((q : Int) == 1) = false := by
          have : (q : Int) ≠ 1 := by omega
          simpa using this
        have HPB0 : Hid (0 ≤ P0 t ∧ P0 t ≤ 20) := by
          obtain ⟨s, -, h2⟩ := HX3.out.ex
          have h3 := h2.lt t HT5.out
          have h4 := (sh_sum HX3.out).2 t HT5.out
          have := HN20.out
          show _ ∧ _
          omega
        have HH0B : Hid (0 ≤ H0 t ∧ H0 t ≤ 20) := by
          have h4 := (sh_sum HX3.out).2 t HT5.out
          have := HN20.out
          show _ ∧ _
          omega
        have HFA := Hid.mk' HX3.out.fa.2.2
        clear hqq
        go_upto_region 14 with fail
        have hpb0 := HPB0.out.1
        have hpb1 := HPB0.out.2
        refine region_chain [] [0, 1, 2, 3, 4, 5, 6, 7] (Grow w3) (Grow w3) (by kernel_rfl) (by kernel_rfl) (fun _ _ h k => h.trans k) (fun _ h => h) ((But.refl _ w3).drew) ?_
        intro ι hne X hX
        have d0 : ∀ x, (X x).cell? ⟨ga, t, none⟩ = some (.int .i64 (H0 t)) := fun x => by rw [(HX3.out.a.but (hX x) (fun h => h)).cell, arr5_at _ HT5.out]
        have d1 : ∀ x, (X x).cell? ⟨gb, t, none⟩ = some (.int .i64 (P0 t)) := fun x => by rw [(HX3.out.b.but (hX x) (fun h => h)).cell, arr5_at _ HT5.out]
        have hwp : IntKind.i64.wrap (P0 t + 1) = P0 t + 1 := wrapI (by omega) (by omega)
        iterate 8 (refine still_step rfl (fun K hK => ?_); go_simp; refine hK _ ?_; clear hK K)
        refine still_nil ?_
        clear hX hne d0 d1 hwp
        intro w4 hw4
        have HX4 := Hid.mk' (HX3.out.grow hw4)
        have HB4 := Hid.mk' (HB3.out.but hw4 (fun h => h))
        clear hw4 HX3 HB3 hpb0 hpb1
        by_cases hge : H0 t ≤ P0 t + 1
        · have HX : Hid (ShW (fun b => b = ga ∨ b = gb) w w4 gt ga gb n (i + 1) H0 P0) := HX4.out.next.less (fun b hb => .inl hb)
          have hil1 := HLT.out
          have hi1 : i + 1 ≤ l := by omega
          have hi2 : i + 1 ≤ 100 := by omega
          clear hil1
          generalize H0 t = h0 at *
          generalize P0 t = p0 at *
          go_wp2
          exact ⟨⟨i + 1, hi1, hi2, by go_num, H0, P0, HX.out⟩, by simp [Go.RowKit.intOf]; omega⟩
        · have HPL : Hid (P0 t + 1 < H0 t) := by show _ < _; omega
          have HRM := Hid.mk' (sh_room HX4.out (sum5_pos (fun u hu => ((sh_sum HX4.out).2 u hu).1) HT5.out (by have := HPB0.out; omega)))
          generalize hHT : H0 t = h0 at *
          generalize hPT0 : P0 t = p0 at *
          go_wp2_with fail
          refine Calls.mono HRM.out ?_
          rintro e w5 ⟨k, c, rfl, k5, ⟨rfl, hR⟩ | ⟨rfl, hD⟩⟩
          · have HR : Hid (ShR (fun b => (b = ga ∨ b = gb) ∨ b = g) w w5 gt n i H0 P0) := hR
            have HB5 := Hid.mk' (HB4.out.but k5 (fun h => h))
            have HA5 := Hid.mk' (HX4.out.a.but k5 (fun h => h))
            have HBB5 := Hid.mk' (HX4.out.b.but k5 (fun h => h))
            have HG5 : Hid (Grow w w5) := by obtain ⟨s, h1, -⟩ := hR; exact h1.grow
            rw [← hPT0] at HPL HPB0
            rw [← hHT] at HPL
            clear hR HRM HX4 HB4 k5 hge hHT hPT0 HH0B
            have hv := HBF.out.but HG5.out (fun _ _ h => h)
            have HPU := Hid.mk' (sh_put HR.out (by have := HLT.out; omega) (v := (A i).v) (bs := (A i).bs) ⟨hv.1, fun h0 j hj => .inl (hv.2 h0 j hj)⟩ (by have := HLN.out; omega))
            have u3 : w5.cell? ⟨g, 3, none⟩ = some (A i).v := HB5.out.cell 3
            obtain ⟨va, vn, vc, hvs⟩ := HOK.out.bs.sl
            rw [hvs] at HPU u3
            clear hv HR
            go_wp2_with fail
            refine Calls.mono HPU.out ?_
            rintro e w6 ⟨rfl, hb6, hpin⟩
            have HPI := Hid.mk' (hpin t HT5.out HPL.out)
            clear hpin HPU
            go_wp2_with fail
            refine Calls.mono HPI.out ?_
            rintro e w7 ⟨rfl, hb7, hs7⟩
            have ha7 := (HA5.out.but hb6 (fun e => e.2 (.inl (.inl rfl)))).but hb7 (fun e => e.2 (.inl (.inl rfl)))
            have hB7 := (HBB5.out.but hb6 (fun e => e.2 (.inl (.inr rfl)))).but hb7 (fun e => e.2 (.inl (.inr rfl)))
            have HX : Hid (ShW (fun b => (b = ga ∨ b = gb) ∨ b = g) w (w7.setCell ⟨gb, t, none⟩ (.int .i64 (P0 t + 1))) gt ga gb n (i + 1) H0 (setN P0 t (P0 t + 1))) := sh_done ⟨.inl (.inl rfl), .inl (.inr rfl), HFA.out⟩ hs7 ha7 hB7 HT5.out
            have c7 : w7.cell? ⟨gb, t, none⟩ = some (.int .i64 (P0 t)) := by rw [hB7.cell, arr5_at _ HT5.out]
            have f7 : w7.frozen? ⟨gb, t, none⟩ = false := hB7.free t
            have hpb := HPB0.out
            have hpb0 := hpb.1
            have hpb1 := hpb.2
            clear hpb hs7 ha7 hB7 hb6 hb7 HPI HA5 HBB5 HB5
            generalize hPT : P0 t = pt at *
            have HL5 := Hid.mk' (sh_left HX.out)
            have HS5 := Hid.mk' (sh_sum HX.out)
            have HCA : Hid (∀ k, k < 5 → ((w7.setCell ⟨gb, t, none⟩ (.int .i64 (pt + 1)))).cell? ⟨ga, k, none⟩ = some (.int .i64 (H0 k))) := fun k hk => by rw [HX.out.a.cell, arr5_at _ hk]
            go_wp2
            go_loopw [15, 14] (fun kv sv wq => ∃ k : Nat, k ≤ 5 ∧ kv = .int .i64 k ∧ sv = .int .i64 (psum H0 k) ∧ wq = (w7.setCell ⟨gb, t, none⟩ (.int .i64 (pt + 1)))) (fun kv _ _ => 5 - (Go.RowKit.intOf kv).toNat)
            case atStart => exact ⟨0, Nat.zero_le _, rfl, rfl, rfl⟩
            case round =>
              obtain ⟨k, hk5, rfl, rfl, hwq⟩ := hrel
              by_cases hklt : k < 5
              · have hki : (k : Int) < 5 := by omega
                have ck := HCA.out k hklt
                rw [← hwq] at ck
                have HWQ := Hid.mk' hwq
                clear hwq
                obtain ⟨hb0, hb1⟩ := HS5.out.2 k hklt
                have HPS : Hid (psum H0 (k + 1) = psum H0 k + H0 k) := rfl
                have HPB := Hid.mk' (psum_le (H := H0) (fun t ht => ⟨(HS5.out.2 t ht).1, by have := (HS5.out.2 t ht).2; have := HN20.out; omega⟩) (k := k) (by omega))
                obtain ⟨hp0, hp1⟩ := HPB.out
                generalize H0 k = hk at *
                generalize psum H0 k = ps at *
                have hn20 := HN20.out
                have hx1 : ¬ (hk < 0) := by omega
                have hx2 : ¬ ((n : Int) < hk) := by omega
                have hp2 : ps ≤ 100 := by omega
                have hh2 : hk ≤ 20 := by omega
                clear hb1 hn20
                go_wp2
                exact ⟨⟨k + 1, by omega, by go_num, by rw [HPS.out], HWQ.out⟩, by simp [Go.RowKit.intOf]; omega⟩
              have hki : ¬ ((k : Int) < 5) := by omega
              obtain rfl : k = 5 := by omega
              have HPE : Hid (psum H0 5 = sum5 H0) := psum_five H0
              rw [HPE.out]
              subst hwq
              obtain ⟨hsn, -⟩ := HS5.out
              have hs0 := sum5_nonneg (H := H0) (fun t ht => (HS5.out.2 t ht).1)
              have HVI := Hid.mk' (sh_victim HX.out)
              generalize sum5 H0 = sm at *
              have hn20 := HN20.out
              have hni : (n : Int) ≤ 20 := by omega
              have hgt : ¬ ((n : Int) < sm) := by omega
              clear hn20
              go_wp2_with fail
              refine Calls.mono HL5.out ?_
              rintro e w7 ⟨rfl, hw⟩
              have h2 := hw.symm
              subst h2
              clear hw
              go_wp2_with fail
              refine Calls.mono HVI.out ?_
              rintro e w8 ⟨⟨kv, cv, rfl, hcv⟩, h8⟩
              have HW8 : Hid (ShW (fun b => b = ga ∨ b = gb) w w8 gt ga gb n (i + 1) H0 (setN P0 t (pt + 1))) := h8.less (fun b hb => hb.elim (fun e => .inl (.inl e)) (fun e => .inl (.inr e)))
              clear h8 HVI HL5
              by_cases hc12 : cv = 12
              · have hsm : ¬ (0 < sm) := fun e => hcv e hc12
                subst hc12
                clear hcv
                go_wp2
                exact ⟨⟨i + 1, by omega, by omega, by go_num, H0, (setN P0 t (pt + 1)), HW8.out⟩, by simp [Go.RowKit.intOf]; omega⟩
              · have hcb : (cv == 12) = false := by simpa using hc12
                clear hcv hc12
                go_wp2
                exact ⟨⟨i + 1, by omega, by omega, by go_num, H0, (setN P0 t (pt + 1)), HW8.out⟩, by simp [Go.RowKit.intOf]; omega⟩
          · have HD := Hid.mk' hD
            have HB5' := Hid.mk' (HB4.out.but k5 (fun h => h))
            have HA5' := Hid.mk' (HX4.out.a.but k5 (fun h => h))
            have HBB5' := Hid.mk' (HX4.out.b.but k5 (fun h => h))
            rw [← hPT0] at HPL HPB0
            rw [← hHT] at HPL
            clear hD HRM HX4 HB4 k5 hge hHT hPT0 HH0B
            go_wp2_with fail
            refine Calls.mono HD.out ?_
            rintro e w55 ⟨rfl, hb55, hR⟩
            have HR : Hid (ShR (fun b => (b = ga ∨ b = gb) ∨ b = g) w w55 gt n i H0 P0) := hR
            have HB5 := Hid.mk' (HB5'.out.but hb55 (fun e => e.2 (.inr rfl)))
            have HA5 := Hid.mk' (HA5'.out.but hb55 (fun e => e.2 (.inl (.inl rfl))))
            have HBB5 := Hid.mk' (HBB5'.out.but hb55 (fun e => e.2 (.inl (.inr rfl))))
            have HG5 : Hid (Grow w w55) := by obtain ⟨s, h1, -⟩ := hR; exact h1.grow
            clear hR HD HB5' HA5' HBB5' hb55
            have hv := HBF.out.but HG5.out (fun _ _ h => h)
            have HPU := Hid.mk' (sh_put HR.out (by have := HLT.out; omega) (v := (A i).v) (bs := (A i).bs) ⟨hv.1, fun h0 j hj => .inl (hv.2 h0 j hj)⟩ (by have := HLN.out; omega))
            have u3 : w55.cell? ⟨g, 3, none⟩ = some (A i).v := HB5.out.cell 3
            obtain ⟨va, vn, vc, hvs⟩ := HOK.out.bs.sl
            rw [hvs] at HPU u3
            clear hv HR
            go_wp2_with fail
            refine Calls.mono HPU.out ?_
            rintro e w6 ⟨rfl, hb6, hpin⟩
            have HPI := Hid.mk' (hpin t HT5.out HPL.out)
            clear hpin HPU
            go_wp2_with fail
            refine Calls.mono HPI.out ?_
            rintro e w7 ⟨rfl, hb7, hs7⟩
            have ha7 := (HA5.out.but hb6 (fun e => e.2 (.inl (.inl rfl)))).but hb7 (fun e => e.2 (.inl (.inl rfl)))
            have hB7 := (HBB5.out.but hb6 (fun e => e.2 (.inl (.inr rfl)))).but hb7 (fun e => e.2 (.inl (.inr rfl)))
            have HX : Hid (ShW (fun b => (b = ga ∨ b = gb) ∨ b = g) w (w7.setCell ⟨gb, t, none⟩ (.int .i64 (P0 t + 1))) gt ga gb n (i + 1) H0 (setN P0 t (P0 t + 1))) := sh_done ⟨.inl (.inl rfl), .inl (.inr rfl), HFA.out⟩ hs7 ha7 hB7 HT5.out
            have c7 : w7.cell? ⟨gb, t, none⟩ = some (.int .i64 (P0 t)) := by rw [hB7.cell, arr5_at _ HT5.out]
            have f7 : w7.frozen? ⟨gb, t, none⟩ = false := hB7.free t
            have hpb := HPB0.out
            have hpb0 := hpb.1
            have hpb1 := hpb.2
            clear hpb hs7 ha7 hB7 hb6 hb7 HPI HA5 HBB5 HB5
            generalize hPT : P0 t = pt at *
            have HL5 := Hid.mk' (sh_left HX.out)
            have HS5 := Hid.mk' (sh_sum HX.out)
            have HCA : Hid (∀ k, k < 5 → ((w7.setCell ⟨gb, t, none⟩ (.int .i64 (pt + 1)))).cell? ⟨ga, k, none⟩ = some (.int .i64 (H0 k))) := fun k hk => by rw [HX.out.a.cell, arr5_at _ hk]
            go_wp2
            go_loopw [15, 14] (fun kv sv wq => ∃ k : Nat, k ≤ 5 ∧ kv = .int .i64 k ∧ sv = .int .i64 (psum H0 k) ∧ wq = (w7.setCell ⟨gb, t, none⟩ (.int .i64 (pt + 1)))) (fun kv _ _ => 5 - (Go.RowKit.intOf kv).toNat)
            case atStart => exact ⟨0, Nat.zero_le _, rfl, rfl, rfl⟩
            case round =>
              obtain ⟨k, hk5, rfl, rfl, hwq⟩ := hrel
              by_cases hklt : k < 5
              · have hki : (k : Int) < 5 := by omega
                have ck := HCA.out k hklt
                rw [← hwq] at ck
                have HWQ := Hid.mk' hwq
                clear hwq
                obtain ⟨hb0, hb1⟩ := HS5.out.2 k hklt
                have HPS : Hid (psum H0 (k + 1) = psum H0 k + H0 k) := rfl
                have HPB := Hid.mk' (psum_le (H := H0) (fun t ht => ⟨(HS5.out.2 t ht).1, by have := (HS5.out.2 t ht).2; have := HN20.out; omega⟩) (k := k) (by omega))
                obtain ⟨hp0, hp1⟩ := HPB.out
                generalize H0 k = hk at *
                generalize psum H0 k = ps at *
                have hn20 := HN20.out
                have hx1 : ¬ (hk < 0) := by omega
                have hx2 : ¬ ((n : Int) < hk) := by omega
                have hp2 : ps ≤ 100 := by omega
                have hh2 : hk ≤ 20 := by omega
                clear hb1 hn20
                go_wp2
                exact ⟨⟨k + 1, by omega, by go_num, by rw [HPS.out], HWQ.out⟩, by simp [Go.RowKit.intOf]; omega⟩
              have hki : ¬ ((k : Int) < 5) := by omega
              obtain rfl : k = 5 := by omega
              have HPE : Hid (psum H0 5 = sum5 H0) := psum_five H0
              rw [HPE.out]
              subst hwq
              obtain ⟨hsn, -⟩ := HS5.out
              have hs0 := sum5_nonneg (H := H0) (fun t ht => (HS5.out.2 t ht).1)
              have HVI := Hid.mk' (sh_victim HX.out)
              generalize sum5 H0 = sm at *
              have hn20 := HN20.out
              have hni : (n : Int) ≤ 20 := by omega
              have hgt : ¬ ((n : Int) < sm) := by omega
              clear hn20
              go_wp2_with fail
              refine Calls.mono HL5.out ?_
              rintro e w7 ⟨rfl, hw⟩
              have h2 := hw.symm
              subst h2
              clear hw
              go_wp2_with fail
              refine Calls.mono HVI.out ?_
              rintro e w8 ⟨⟨kv, cv, rfl, hcv⟩, h8⟩
              have HW8 : Hid (ShW (fun b => b = ga ∨ b = gb) w w8 gt ga gb n (i + 1) H0 (setN P0 t (pt + 1))) := h8.less (fun b hb => hb.elim (fun e => .inl (.inl e)) (fun e => .inl (.inr e)))
              clear h8 HVI HL5
              by_cases hc12 : cv = 12
              · have hsm : ¬ (0 < sm) := fun e => hcv e hc12
                subst hc12
                clear hcv
                go_wp2
                exact ⟨⟨i + 1, by omega, by omega, by go_num, H0, (setN P0 t (pt + 1)), HW8.out⟩, by simp [Go.RowKit.intOf]; omega⟩
              · have hcb : (cv == 12) = false := by simpa using hc12
                clear hcv hc12
                go_wp2
                exact ⟨⟨i + 1, by omega, by omega, by go_num, H0, (setN P0 t (pt + 1)), HW8.out⟩, by simp [Go.RowKit.intOf]; omega⟩
    · have HWG := Hid.mk' hI.wgrow
      clear hI
      rcases (by omega : i < l ∧ ¬ i < 100 ∨ ¬ i < l) with ⟨h1, h2⟩ | h1
      · have hlti : (i : Int) < (l : Int) := by omega
        have hlt2 : ¬ ((i : Int) < 100) := by omega
        go_wp2_with fail
        refine Calls.mono (awake_any _) ?_
        rintro e wa ⟨rfl, ga'⟩
        have HGA' := Hid.mk' (HWG.out.trans ga')
        clear ga'
        go_wp2
        go_ret
        exact ⟨rfl, HGA'.out.below (Nat.le_refl _) (fun _ _ h => h)⟩
      · have hlti : ¬ ((i : Int) < (l : Int)) := by omega
        go_wp2_with fail
        refine Calls.mono (awake_any _) ?_
        rintro e wa ⟨rfl, ga'⟩
        have HGA' := Hid.mk' (HWG.out.trans ga')
        clear ga'
        go_wp2
        go_ret
        exact ⟨rfl, HGA'.out.below (Nat.le_refl _) (fun _ _ h => h)⟩

set_option maxRecDepth 100000 in
theorem framesShares_lifted (os : Os) (started : os.Started) (H : Type) (enc : TypeId × Value → H) :
    ReturnsInHanded {} Try.checked os 5 .any (Rows.framesSharesSpec.pre6 enc Try.prog Try.f5 Rows.framesSharesRow.domain false) (Rows.framesSharesSpec.post enc Try.prog Try.f5 false true false false) := by
  refine returnsInHanded_of_change_sized (C := Try.checked) (by kernel_rfl) started (by kernel_rfl) Try.func5
    (ChangeSpec.witness6 (enc := enc) (C := Try.checked) false ⟨#[], #[.int .i64 0, .slice none 0 0], []⟩ 8 (by kernel_rfl) (by kernel_rfl) (by kernel_rfl) (by kernel_rfl)) ?_
  intro W base args ds gs before hval0 hW hcnd hsz0 _
  have hsz : (DataW.weightsEach Try.prog (Try.f5.params.toList ++ Rows.framesSharesSpec.plain.varTypes Try.prog) (ds ++ gs)).all (· ≤ reachBytes) = true := hsz0
  clear hsz0
  have hval : ∀ (j : Nat) t v, Try.f5.params[j]? = some t → args[j]? = some v → Value.okWide Try.prog W .any base t v := hval0
  have hW' := hW
  obtain ⟨p, q, hA0, hV, rfl, hfz, hnd⟩ := hW
  have hA : DataW.TrodAll enc Try.prog W 0 (fun _ => true) true Try.f5.params.toList args.toList ds p := hA0
  rw [Try.params5] at hA hval hsz
  obtain ⟨v0, vs0, d0, ds0, p0, q0, hargs, rfl, rfl, h0, r0⟩ := trodAll_cons hA
  obtain ⟨v1, vs1, d1, ds1, p1, q1, rfl, rfl, rfl, h1, r1⟩ := trodAll_cons r0
  obtain ⟨rfl, rfl, rfl⟩ := trodAll_nil r1
  obtain rfl : args = #[v0, v1] := by cases args; simp_all
  obtain ⟨rfl, rfl⟩ := trodVars_none hV
  obtain ⟨a0, rfl, rfl, rfl, w0⟩ := open_int Try.underlying3 (hval 0 3 v0 rfl rfl) h0
  have lt1 : ∀ x ∈ p1, x.block < W.heap.size := by obtain ⟨m, hm⟩ := h1; exact DataW.trod_lt m _ _ _ hm
  obtain ⟨n1, z1, w1⟩ := view_facts (hval 1 22 v1 rfl rfl) h1 lt1 hsz (j := 1) rfl rfl
  clear hA0 hval0
  refine (framesShares_walk a0 v1 n1 z1 W w0 w1).mono fun e W' ⟨he, bel⟩ => ?_
  subst he
  exact ⟨_, rfl, _, _, _, [], _, [], hW', trodAll_mk1 (shut_bool Try.underlying4 _), (trodAll_cons_mk (shut_int Try.underlying3 w0) (trodAll_cons_mk (Below.trod (by kernel_rfl) (by kernel_rfl) (of_decide_eq_true (by kernel_rfl)) h1 bel lt1) trodAll_mk0)), rfl, bel.frame _, fun h => by cases h⟩

theorem framesShares_holds : Rows.FramesSharesSaid :=
  OpenClaim.holds_of_wide 5 Try.f5 rfl rfl rfl rfl rfl rfl rfl ⟨rfl, rfl, rfl, rfl, rfl⟩ rfl rfl rfl rfl rfl (by kernel_rfl) Try.func5 (by kernel_rfl)
    (of_decide_eq_true (by kernel_rfl)) (by unfold Func.isWrapper; first | (rw [if_pos (by decide +kernel)]; kernel_rfl) | (rw [if_neg (by decide +kernel)]; exact ⟨rfl, rfl⟩))
    (fun os started H enc _ => framesShares_lifted os started H enc)
#print axioms framesShares_holds
end Go.Proofs.Ytmlklmhochihbaa
