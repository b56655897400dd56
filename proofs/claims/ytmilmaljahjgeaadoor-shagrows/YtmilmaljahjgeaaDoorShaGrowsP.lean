/- ShaGrows: the walk. -/
import Derived.Test.YtmilmaljahjgeaaDoorShaGreat
import Derived.Test.YtmilmaljahjgeaaDoorActs
namespace Go.Proofs.YtmilmaljahjgeaaDoor
open Go.RowKit

theorem own_block {w : World} {B g m : Nat} {xs : List Value} (h : w.ownsRow B 5 1 (.slice (some ⟨g, 0, none⟩) m m) m xs) : Blk w g 5 xs := by
  obtain ⟨h1, ⟨h2, _⟩ | ⟨g', cap, cur, h2, _, hh, _, _, hs, ht⟩⟩ := h
  · cases h2
  · obtain ⟨rfl, _, rfl⟩ := slice_inj h2
    show w.heap[g]? = _
    rw [hh, ← ht, Nat.mul_one]
    have e : cur.toList.take m = cur.toList := List.take_of_length_le (by rw [Array.length_toList]; omega)
    rw [e]

set_option maxRecDepth 100000 in
set_option maxHeartbeats 8000000 in
theorem shaGrows_walk (v1 : Value) (n : Nat) (K : Nat → Int) (D : Nat → List Nat) (w : World) (hk : Kw w) (hh : Hw w) (h1 : Acts w v1 n K D) :
    Calls Tryd.prog 5 #[v1] w fun e w' => e = .returned (.bool true) ∧ Below w.heap.size w w' := by
  have HAW : Hid (∀ w2, But (fun _ => False) w w2 → Calls Tryd.prog 8 #[] w2 fun e w' => e = .returned (.bool true) ∧ But (fun _ => False) w2 w') := fun w2 q => awake_any (hk.but q (fun h => h)) (hh.but q (fun h => h))
  have HK := Hid.mk' hk
  have HH := Hid.mk' hh
  have h2 : 2 ≤ w.heap.size := hk.lt
  obtain ⟨hn, hKb, hv⟩ := h1
  have HKB := Hid.mk' hKb
  obtain ⟨ao, cap, rfl, hv2⟩ : ∃ ao cap, v1 = .slice ao n cap ∧ (0 < n → ∃ b off, ao = some ⟨b, off, none⟩ ∧ b < w.heap.size ∧
      ∀ i, i < n → w.cell? ⟨b, off + i * 2, none⟩ = some (.int .i64 (K i)) ∧ ∃ u, w.cell? ⟨b, off + i * 2 + 1, none⟩ = some u ∧ Bs w u (D i) ∧ (D i).length ≤ 140737488351232) := by
    rcases hv with ⟨rfl, ao, cap, rfl⟩ | ⟨h0, b, off, cap, rfl, hb, hc⟩
    · exact ⟨ao, cap, rfl, fun h => absurd h (by omega)⟩
    · exact ⟨_, cap, rfl, fun _ => ⟨b, off, rfl, hb, hc⟩⟩
  have HV := Hid.mk' hv2
  clear hk hh hv hv2 hKb
  go_enter Tryd.func5, Tryd.ntmps5
  go_wp2_with fail
  refine Calls.mono new_any ?_
  rintro e w1 ⟨rfl, hz1, hb1⟩
  have HS1 := Hid.mk' (Sm.zero hz1)
  have HB1 := Hid.mk' hb1
  have hsz1 : w.heap.size + 1 ≤ w1.heap.size := hz1.lt
  clear hz1 hb1
  go_wp2
  go_loopw [4, 5] (fun s i wr => ∃ (k : Nat) (A : List Nat), k ≤ n ∧ k ≤ 300 ∧ i = .int .i64 k ∧ Ow wr w1.heap.size s A ∧ A.length ≤ 20000 ∧ Sm wr w.heap.size A ∧ But (fun _ => False) w wr ∧ w1.heap.size ≤ wr.heap.size) (fun _ i _ => 300 - (intOf i).toNat)
  case atStart => exact ⟨0, [], Nat.zero_le _, by decide, rfl, Ow.nil _ _, by decide, HS1.out, HB1.out, Nat.le_refl _⟩
  case round =>
    obtain ⟨k, A, hkn, hk3, rfl, ho, hA, hsm, hbt, hszr⟩ := hrel
    have HO := Hid.mk' ho
    have HSM := Hid.mk' hsm
    have HBT := Hid.mk' hbt
    have hkr := Hid.mk' (HK.out.but hbt (fun h => h))
    have hhr := Hid.mk' (HH.out.but hbt (fun h => h))
    obtain ⟨aa, ca, rfl, -, -⟩ := ho.bs.gen
    obtain ⟨la, hla⟩ : ∃ la, la = A.length := ⟨_, rfl⟩
    have HLA := Hid.mk' hla
    rw [← hla] at hA HO ⊢
    clear ho hsm hbt hla
    by_cases hgo : k < n ∧ k < 300
    · have hg1 : (k : Int) < (n : Int) := by omega
      have hg2 : (k : Int) < 300 := by omega
      obtain ⟨b, off, rfl, hb, hc⟩ := HV.out (by omega)
      obtain ⟨hc0, u, hc1, hbs, hdl⟩ := hc k hgo.1
      have f0 : wr.cell? ⟨b, off + k * 2, none⟩ = some (.int .i64 (K k)) := (World.cell?_of_block (HBT.out.block b hb (fun h => h))).trans hc0
      have f1 : wr.cell? ⟨b, off + k * 2 + 1, none⟩ = some u := (World.cell?_of_block (HBT.out.block b hb (fun h => h))).trans hc1
      have hKk := HKB.out k hgo.1
      have HBS := Hid.mk' hbs
      obtain ⟨au, cu, rfl, -, -⟩ := hbs.gen
      obtain ⟨m, hm⟩ : ∃ m, m = (D k).length := ⟨_, rfl⟩
      have HM := Hid.mk' hm
      rw [← hm] at hdl f1 HBS
      generalize K k = kk at *
      generalize D k = Dk at *
      have HC1 := Hid.mk' hc1
      rw [← hm] at HC1
      have hbl := hb
      clear hc hc0 hc1 hbs hm
      by_cases hbig : 20000 - la < m
      · have hbi : (20000 : Int) - (la : Int) < (m : Int) := by omega
        go_wp2_with fail
        refine Calls.mono (HAW.out _ HBT.out) ?_
        rintro e w4 ⟨rfl, hb4⟩
        go_wp2
        go_ret
        exact ⟨rfl, (HBT.out.trans hb4).below (Nat.le_refl _) (fun _ _ h => h)⟩
      · have hbi : ¬ (20000 : Int) - (la : Int) < (m : Int) := by omega
        by_cases hz : kk.tmod 3 = 0
        · --[
          have HDL := Hid.mk' (digest_len A)
          have HSU := Hid.mk' (sum_any (.inr ⟨_, rfl, HSM.out⟩) hkr.out hhr.out (by rw [← HLA.out]; omega))
          have HRF : Hid (∀ w2, But (fun _ => False) wr w2 → Calls Tryd.prog 11 #[.slice aa la ca] w2 fun e w' => e = .returned (.agg (u8s (digest A)).toArray) ∧ But (fun _ => False) w2 w') :=
            fun w2 q => refOf_any (HO.out.bs.but q (fun _ _ _ h => h)) (by rw [← HLA.out]; omega)
          generalize digest A = E at *
          obtain ⟨C, hC⟩ : ∃ C, C = (u8s E).toArray := ⟨_, rfl⟩
          rw [← hC] at HSU HRF
          have HEQ : Hid (∀ w, (Op.equalIn 10000 25 (.agg C) (.agg C)).run Tryd.prog w = .ok true w) := by intro w; rw [hC]; exact equal_same E HDL.out w
          clear hC
          go_wp2_with fail
          refine Calls.mono HSU.out ?_
          rintro e w2 ⟨rfl, hb2⟩
          have HR2 := Hid.mk' (HRF.out w2 hb2)
          have HB2 := Hid.mk' hb2
          clear hb2 HRF
          go_wp2_with fail
          refine Calls.mono HR2.out ?_
          rintro e w3 ⟨rfl, hb3⟩
          have heq := HEQ.out w3
          have HB3 := Hid.mk' (HB2.out.trans hb3)
          clear hb3 HR2
          go_wp2
          refine ⟨⟨k + 1, A, by omega, by omega, by go_num, HO.out.but HB3.out (fun _ _ _ h => h), by rw [← HLA.out]; exact hA, HSM.out.but HB3.out (fun h => h), HBT.out.trans HB3.out, Nat.le_trans hszr HB3.out.size⟩, by simp [intOf]; omega⟩
          --]
        · have hbw : Bs wr (.slice au m cu) Dk := HBS.out.but HBT.out (fun _ _ _ h => h)
          have HLE := Hid.mk' (lent_any hbw (by rw [← HM.out]; omega))
          rw [← HM.out] at HLE
          obtain ⟨wo, hwo⟩ : ∃ wo, wo = wr := ⟨_, rfl⟩
          subst hwo
          clear hbw
          go_wp2_with fail
          refine Calls.mono HLE.out ?_
          rintro e w2 ⟨g2, rfl, hg2, ho2, hb2⟩
          have k2 : But (fun _ => False) wo w2 := But.of hb2
          have hx := ho2.prefix (c' := Dk.length + 3) (by omega)
          rw [← HM.out] at hx
          have hsm2 := HSM.out.but k2 (fun h => h)
          have sg := HSM.out.lt
          have HWR := Hid.mk' (write_any hx hsm2 (hkr.out.but k2 (fun h => h)) (hhr.out.but k2 (fun h => h)) h2 (fun _ e => by
            have e' : some g2 = some w.heap.size := e
            have := Option.some.inj e'
            omega) (by rw [← HLA.out, ← HM.out]; omega))
          have HO2 := Hid.mk' ho2
          have HB2 : Hid (But (fun _ => False) w w2) := HBT.out.trans k2
          have HK2 := Hid.mk' k2
          clear hx hsm2 ho2 hb2 k2 HLE f0
          go_wp2_with fail
          refine Calls.mono HWR.out ?_
          rintro e w3 ⟨rfl, hsm3, hb3⟩
          have ho3 := HO2.out.but hb3 (fun j e hj h => by
            have e' : some g2 = some j := e
            have h' : j = w.heap.size := h
            have := Option.some.inj e'
            omega)
          have hb03 : But (fun _ => False) w w3 := HB2.out.then hb3 (fun i hi e => by omega)
          have hv3 := HBS.out.but hb03 (fun _ _ _ h => h)
          have f13 : w3.cell? ⟨b, off + k * 2 + 1, none⟩ = some (.slice au m cu) := (World.cell?_of_block (hb03.block b hbl (fun h => h))).trans HC1.out
          have hkp := kept_true hv3 (by rw [← HM.out]; exact ho3)
          rw [← HM.out] at hkp
          have HKP := Hid.mk' hkp
          have hzl0 : (Dk ++ [201, 202, 203]).length = m + 3 := by simp [← HM.out]
          have hblk3 : Blk w3 g2 5 (u8s (Dk ++ [201, 202, 203])) := own_block (by have := ho3.own; rw [hzl0] at this; exact this)
          have hzb0 := ho3.lt
          have HBLK := Hid.mk' hblk3
          have HZB := Hid.mk' hzb0
          have HZL := Hid.mk' hzl0
          have HS3 := Hid.mk' hsm3
          have HB03 := Hid.mk' hb03
          have HB3 := Hid.mk' hb3
          have s3 : g2 < w3.heap.size := hblk3.lt
          clear ho3 hb03 hv3 hkp hblk3 hzb0 hzl0 hsm3 hb3 HWR HO2 HB2
          go_wp2_with fail
          refine Calls.mono HKP.out ?_
          rintro e w4 ⟨rfl, d4, rfl⟩
          clear HKP f1
          go_wp2
          go_loopw [7] (fun i wx => ∃ (t : Nat) (zs : List Nat), t ≤ m ∧ i = .int .i64 t ∧ zs.length = m + 3 ∧ (∀ z ∈ zs, z < 256) ∧ Blk wx g2 5 (u8s zs) ∧ But (· = g2) w3 wx) (fun i _ => m - (intOf i).toNat)
          case atStart => exact ⟨0, _, Nat.zero_le _, rfl, HZL.out, HZB.out, HBLK.out, (But.refl _ _).drewN⟩
          case round =>
            obtain ⟨t, zs, ht, rfl, hzl, hzb, hblk, hbx⟩ := hrel
            by_cases hlt : t < m
            · have hlti : (t : Int) < (m : Int) := by omega
              obtain ⟨x, hx⟩ : ∃ x, x = zs.getD t 0 := ⟨_, rfl⟩
              have hcell := hblk.cell t
              rw [u8s_get zs t (by omega), ← hx] at hcell
              have hfr := hblk.free t
              have hx1 : x < 256 := by rw [hx]; exact hzb _ (getD_mem zs t (by omega))
              have HBL := Hid.mk' hblk
              have HBX := Hid.mk' hbx
              have HZ := Hid.mk' hzb
              clear hx hblk hbx hzb
              go_wp2
              refine ⟨⟨t + 1, zs.set t ((x + 1) % 256), by omega, by go_num, by simpa using hzl, ?_, ?_, HBX.out.setCell (fun _ => rfl) _⟩, by simp [intOf]; omega⟩
              · intro z hz
                rcases List.mem_or_eq_of_mem_set hz with h | rfl
                · exact HZ.out z h
                · omega
              · have e : u8s (zs.set t ((x + 1) % 256)) = (u8s zs).set t (.int .u8 (((x : Int) + 1) % 256)) := by
                  simp [u8s, List.map_set]
                rw [e]; exact HBL.out.set t _
            · have hge : ¬ ((t : Int) < (m : Int)) := by omega
              have HO6 : Hid (Ow wr w1.heap.size (.slice aa la ca) A) := by
                have hge1 := fun j e => (HO.out.ge j e)
                refine ((HO.out.but HK2.out (fun _ _ _ h => h)).but HB3.out (fun j e hj h => ?_)).but hbx (fun j e hj h => ?_)
                · have h1 := hge1 j e
                  have h' : j = w.heap.size := h
                  omega
                · have h1 := hge1 j e
                  have h' : j = g2 := h
                  omega
              have hb06 : But (fun _ => False) w wr := HB03.out.then hbx (fun i hi e => by omega)
              have f16 : wr.cell? ⟨b, off + k * 2 + 1, none⟩ = some (.slice au m cu) := (World.cell?_of_block (hb06.block b hbl (fun h => h))).trans HC1.out
              have hS6 := HS3.out.but hbx (by omega)
              have s6 : w1.heap.size ≤ wr.heap.size := by have := hbx.size; have := HB3.out.size; have := HK2.out.size; omega
              obtain ⟨v9, w9, hr9, ho9, hg9⟩ := append_bytes 22 HO6.out (HBS.out.but hb06 (fun _ _ _ h => h)) (by rw [← HLA.out, ← HM.out]; omega) s6
              have hge6 := fun j e => (HO6.out.ge j e).1
              have k9 : But (fun j => w1.heap.size ≤ j) wr w9 := (But.refl _ wr).grown hg9 (fun j e hj => hge6 j e)
              have HS9 := Hid.mk' (hS6.but k9 (by omega))
              have HB09 : Hid (But (fun _ => False) w w9) := hb06.then k9 (fun i hi e => by omega)
              have hlv : (A ++ Dk).length = la + m := by rw [List.length_append, ← HLA.out, ← HM.out]
              have HLN := Hid.mk' (len_any HS9.out.len)
              rw [hlv] at HLN
              obtain ⟨av, cv, rfl, -, -⟩ := ho9.bs.gen
              rw [hlv] at hr9 ho9
              have HR9 := Hid.mk' hr9
              have HO9 := Hid.mk' ho9
              have HLV := Hid.mk' hlv
              have s9 : w1.heap.size ≤ w9.heap.size := Nat.le_trans s6 k9.size
              have hsum : la + m ≤ 20000 := by omega
              clear hr9 ho9 hg9 k9 hge6 hS6 hb06 hlv HO6 hblk hbx hzb hzl
              go_wp2_with (at_builtin; refine wpList_append_seen rfl _ _ 22 rfl _ _ rfl rfl HR9.out ?_)
              refine Calls.mono HLN.out ?_
              rintro e w10 ⟨rfl, hw10⟩
              have hw11 := hw10.symm
              subst hw11
              clear f16 f13
              go_wp2
              refine ⟨⟨k + 1, A ++ Dk, by omega, by omega, by go_num, HO9.out, by rw [HLV.out]; exact hsum, HS9.out, HB09.out, s9⟩, by simp [intOf]; omega⟩
    · have HDL := Hid.mk' (digest_len A)
      have HSU : Hid (∀ w2, But (fun _ => False) wr w2 → Calls Tryd.prog 16 #[.pointer (some ⟨w.heap.size, 0, none⟩)] w2 fun e w' => e = .returned (.agg (u8s (digest A)).toArray) ∧ But (fun _ => False) w2 w') :=
        fun w2 q => sum_any (.inr ⟨_, rfl, HSM.out.but q (fun h => h)⟩) (hkr.out.but q (fun h => h)) (hhr.out.but q (fun h => h)) (by rw [← HLA.out]; omega)
      have HRF : Hid (∀ w2, But (fun _ => False) wr w2 → Calls Tryd.prog 11 #[.slice aa la ca] w2 fun e w' => e = .returned (.agg (u8s (digest A)).toArray) ∧ But (fun _ => False) w2 w') :=
        fun w2 q => refOf_any (HO.out.bs.but q (fun _ _ _ h => h)) (by rw [← HLA.out]; omega)
      generalize digest A = E at *
      obtain ⟨C, hC⟩ : ∃ C, C = (u8s E).toArray := ⟨_, rfl⟩
      rw [← hC] at HSU HRF
      have HEQ : Hid (∀ w, (Op.equalIn 10000 25 (.agg C) (.agg C)).run Tryd.prog w = .ok true w) := by intro w; rw [hC]; exact equal_same E HDL.out w
      clear hC
      have hbw : (k < n ∧ 300 ≤ k) ∨ ¬ k < n := by omega
      rcases hbw with ⟨hA1, hB1⟩ | hA1
      case' inl =>
        have hg1 : (k : Int) < (n : Int) := by omega
        have hg2 : ¬ (k : Int) < 300 := by omega
      case' inr =>
        have hg1 : ¬ (k : Int) < (n : Int) := by omega
      all_goals
        go_wp2_with fail
        refine Calls.mono (HSU.out wr (But.refl _ _)) ?_
        rintro e w2 ⟨rfl, hb2⟩
        have HB2 := Hid.mk' hb2
        clear hb2
        go_wp2_with fail
        refine Calls.mono (HRF.out w2 HB2.out) ?_
        rintro e w3 ⟨rfl, hb3⟩
        have heq := HEQ.out w3
        have HB3 := Hid.mk' (HB2.out.trans hb3)
        clear hb3
        go_wp2_with fail
        refine Calls.mono (HSU.out w3 HB3.out) ?_
        rintro e w4 ⟨rfl, hb4⟩
        have HB4 := Hid.mk' (HB3.out.trans hb4)
        clear hb4 heq
        go_wp2_with fail
        refine Calls.mono (HSU.out w4 HB4.out) ?_
        rintro e w5 ⟨rfl, hb5⟩
        have heq := HEQ.out w5
        have HB5 := Hid.mk' (HBT.out.trans (HB4.out.trans hb5))
        clear hb5
        go_wp2_with fail
        refine Calls.mono (HAW.out w5 HB5.out) ?_
        rintro e w6 ⟨rfl, hb6⟩
        go_wp2
        go_ret
        exact ⟨rfl, (HB5.out.trans hb6).below (Nat.le_refl _) (fun _ _ h => h)⟩
end Go.Proofs.YtmilmaljahjgeaaDoor
