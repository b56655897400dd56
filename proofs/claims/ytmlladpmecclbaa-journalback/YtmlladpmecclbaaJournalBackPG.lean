/- JournalBack: what was laid is opened as it was, and with any one byte of it turned it is another head, or none. For every input. -/
import Derived.Test.YtmlladpmecclbaaAllB
import Derived.Test.YtmlladpmecclbaaAllC
namespace Go.Proofs.Ytmlladpmecclbaa
open Go.ChangeShapes Go.WideShapes Go.ChangeAt Go.RowKit Go.Deep

theorem toI_inj {a b : List Nat} (h : toI a = toI b) : a = b := by
  unfold toI at h
  exact (List.map_inj_right (fun x y hxy => by omega)).1 h
theorem int_toI {xs : List Int} (h : xs.any bey = false) : ∃ l : List Nat, xs = toI l ∧ ∀ x ∈ l, x ≤ 65535 := by
  have hx : ∀ x ∈ xs, 0 ≤ x ∧ x ≤ 65535 := fun x hx => by
    have h1 := List.any_eq_false.1 h x hx
    have h2 : bey x = false := by simpa using h1
    have := of_decide_eq_false h2
    omega
  refine ⟨xs.map Int.toNat, ?_, fun x hx' => ?_⟩
  · unfold toI
    rw [List.map_map]
    apply List.ext_getElem (by simp)
    intro i h1 h2
    have := hx xs[i] (List.getElem_mem h1)
    simp
    omega
  · obtain ⟨y, hy, rfl⟩ := List.mem_map.1 hx'
    have := hx y hy
    omega
set_option maxRecDepth 100000 in
set_option maxHeartbeats 16000000 in
theorem journalBack_walk (a0 : Int) (v1 : Value) (z1 : List Int) (a2 a3 a4 : Int) (w : World) (h0 : (Lit.int .u64 a0).wf = true) (h1 : Nums w v1 z1) (_h2 : (Lit.int .i64 a2).wf = true) (_h3 : (Lit.int .i64 a3).wf = true) (h4 : (Lit.int .u8 a4).wf = true) :
    Calls Try.prog 4 #[.int .u64 a0, v1, .int .i64 a2, .int .i64 a3, .int .u8 a4] w fun e w' => e = .returned (.bool true) ∧ Below w.heap.size w w' := by
  obtain ⟨by4, hby, hby8⟩ := byte_num h4
  subst hby
  obtain ⟨V, hV, hV64⟩ : ∃ V : Nat, a0 = (V : Int) ∧ V < 18446744073709551616 := by
    have h1 : IntKind.u64.min ≤ a0 ∧ a0 ≤ IntKind.u64.max := by simpa [Lit.wf] using h0
    have e1 : IntKind.u64.min = 0 := rfl
    have e2 : IntKind.u64.max = 18446744073709551615 := rfl
    exact ⟨a0.toNat, by omega, by omega⟩
  subst hV
  have HNUM := Hid.mk' h1
  obtain ⟨ao, cap, rfl⟩ := h1.len
  obtain ⟨n, hn⟩ : ∃ n, n = z1.length := ⟨_, rfl⟩
  rw [← hn] at HNUM ⊢
  have HN := Hid.mk' hn
  have hnb : n ≤ 140737488355328 := by rw [hn]; exact h1.2.1
  clear h0 h1 _h2 _h3 h4 hn
  by_cases hbig : 2000 < n
  · have hbi : (2000 : Int) < (n : Int) := by omega
    clear hbig
    go_enter Try.func4, Try.ntmps4
    go_wp2_with fail
    refine Calls.mono (jawake_any w) ?_
    rintro e w2 ⟨rfl, hg2⟩
    go_wp2
    go_ret
    exact ⟨rfl, hg2.below (Nat.le_refl _) (fun _ _ h => h)⟩
  have hbi : ¬ (2000 : Int) < (n : Int) := by omega
  by_cases hgood : (1 ≤ a2 ∧ a2 ≤ 256) ∧ (z1.length : Int) ≤ a2 ∧ z1.any bey = false
  case neg =>
    have HHD := Hid.mk' (jhead_no (V := (V : Int)) HNUM.out (by rw [← HN.out]; omega) hgood)
    clear hgood hbig
    go_enter Try.func4, Try.ntmps4
    go_wp2_with fail
    refine Calls.mono HHD.out ?_
    rintro e w2 ⟨rfl, hg2⟩
    have HG2 := Hid.mk' hg2
    clear hg2
    go_wp2_with fail
    refine Calls.mono (jawake_any w2) ?_
    rintro e w3 ⟨rfl, hg3⟩
    have HG3 := Hid.mk' (HG2.out.trans hg3)
    clear hg3
    go_wp2
    go_ret
    exact ⟨rfl, HG3.out.below (Nat.le_refl _) (fun _ _ h => h)⟩
  obtain ⟨⟨hb1', hb2'⟩, hlb', hany⟩ := hgood
  obtain ⟨b, rfl⟩ : ∃ b : Nat, a2 = (b : Int) := ⟨a2.toNat, by omega⟩
  have hb1 : 1 ≤ b := by omega
  have hb2 : b ≤ 256 := by omega
  obtain ⟨l, hzl, hx⟩ := int_toI hany
  have hln : l.length = n := by rw [HN.out, hzl, toI_len]
  have hlb : l.length ≤ b := by rw [hln]; rw [← HN.out] at hlb'; omega
  rw [hzl] at HNUM
  have HX := Hid.mk' hx
  have HLB := Hid.mk' hlb
  have HV := Hid.mk' hV64
  have HHD := Hid.mk' (jhead_any hV64 HNUM.out hb1 hb2 hlb hx)
  have hm5 := hds_le hb2
  obtain ⟨m, hm⟩ : ∃ m, m = hds b := ⟨_, rfl⟩
  rw [← hm] at HHD hm5
  have HM := Hid.mk' hm
  clear hbig hb1' hb2' hlb' hany hzl hx hlb hV64 hm
  go_enter Try.func4, Try.ntmps4
  go_wp2_with fail
  refine Calls.mono HHD.out ?_
  rintro e w2 ⟨hv, G, rfl, hnb2, hg2⟩
  obtain ⟨hb, hc, hve, hcap⟩ := hnb2.cap (by omega)
  subst hve
  have hps2 := hnb2.ps
  rw [show (List.range m).map (cutB (hdB V l)) = cutN (hdB V l) m from rfl] at hps2
  have HCAP : Hid (∀ ao k c, (Value.slice (some ⟨hb, 0, none⟩) m hc) = .slice ao k c → k ≤ c) := fun ao k c e => by
    simp only [Value.slice.injEq] at e
    omega
  have HJ := Hid.mk' (jopen_any hps2 HCAP.out (by rw [cutN_len]; omega) hb1 hb2)
  rw [← HM.out] at HJ
  have HNB2 := Hid.mk' hnb2
  have HG2 := Hid.mk' hg2
  have HIS : Hid (OpIs b m (cutN (hdB V l) m) V l 0) := .inl ⟨rfl, HV.out, HLB.out, HX.out, rfl⟩
  have HROOM : Hid (12 + 4 * b ≤ 256 * m) := by show _ ≤ _; rw [HM.out]; exact hds_room b
  clear hnb2 hg2 hps2 HHD
  go_wp2_with fail
  refine Calls.mono HJ.out ?_
  rintro e w3 ⟨V3, l3, f3, bv3, rfl, ho3, hnm3, hg3, hnw3⟩
  obtain ⟨rfl, rfl, rfl⟩ := ho3.uniq hb2 HROOM.out HIS.out
  have HG3 := Hid.mk' (HG2.out.trans hg3)
  have HNB3 := Hid.mk' (HNB2.out.grow hg3)
  have HNM3 := Hid.mk' hnm3
  have HNEW := Hid.mk' hnw3
  have HGX2 : Hid (∀ i, i < m → G i < w2.heap.size) := fun i hi => by
    obtain ⟨V', -, hV'⟩ := HNB2.out.ex
    exact (hV' i hi).lt
  have hsi := sameints_any hnm3 (HNUM.out.grow HG3.out)
  rw [decide_eq_true rfl] at hsi
  have HSI := Hid.mk' hsi
  obtain ⟨ba, bc, hbe⟩ := hnm3.len
  rw [toI_len, hln] at hbe
  subst hbe
  have eV : ((V3 : Int) != (V3 : Int)) = false := by simp
  clear ho3 hnm3 hg3 hsi HJ hnw3
  go_wp2_with fail
  refine Calls.mono HSI.out ?_
  rintro e w4 ⟨rfl, hg4⟩
  have HG4 := Hid.mk' (HG3.out.trans hg4)
  have HNB4 := Hid.mk' (HNB3.out.grow hg4)
  have HNM4 := Hid.mk' (HNM3.out.grow hg4)
  clear hg4 HSI
  by_cases hb0 : by4 = 0
  · have e0 : (((by4 : Nat) : Int) == 0) = true := by rw [hb0]; rfl
    clear hb0
    go_wp2_with fail
    refine Calls.mono (jawake_any w4) ?_
    rintro e w5 ⟨rfl, hg5⟩
    have HG5 := Hid.mk' (HG4.out.trans hg5)
    clear hg5
    go_wp2
    go_ret
    exact ⟨rfl, HG5.out.below (Nat.le_refl _) (fun _ _ h => h)⟩
  have e0 : (((by4 : Nat) : Int) == 0) = false := by
    have : ((by4 : Nat) : Int) ≠ 0 := by omega
    simpa using this
  obtain ⟨M, hM⟩ : ∃ M, M = 256 * m := ⟨_, rfl⟩
  have hM0 : 0 < M := by omega
  have hpk := fun w' => pick_any a3 M w' (by omega) (by omega)
  obtain ⟨k, hk, hkc⟩ : ∃ k : Nat, a3 % (M : Int) = (k : Int) ∧ k < M := ⟨(a3 % (M : Int)).toNat, by have := Int.emod_nonneg a3 (b := (M : Int)) (by omega); omega, by have := Int.emod_lt_of_pos a3 (b := (M : Int)) (by omega); have := Int.emod_nonneg a3 (b := (M : Int)) (by omega); omega⟩
  rw [hk] at hpk
  have HPK := Hid.mk' hpk
  have hmul : IntKind.i64.wrap (256 * (m : Int)) = (M : Int) := by rw [wrapI (by omega) (by omega)]; omega
  have HMM := Hid.mk' hM
  clear hpk hk hM
  go_wp2_with fail
  refine Calls.mono (HPK.out w4) ?_
  rintro e wa ⟨rfl, hwa⟩
  subst wa
  clear HPK hmul e0
  obtain ⟨q, hq⟩ : ∃ q, q = k / 256 := ⟨_, rfl⟩
  obtain ⟨j, hj⟩ : ∃ j, j = k % 256 := ⟨_, rfl⟩
  have hdq : Int.tdiv (k : Int) 256 = (q : Int) := by rw [Int.tdiv_eq_ediv_of_nonneg (by omega)]; omega
  have hmq : Int.tmod (k : Int) 256 = (j : Int) := by rw [Int.tmod_eq_emod_of_nonneg (by omega)]; omega
  have hqm : q < m := by have := HMM.out; omega
  have hj8 : j < 256 := by omega
  have hj8i : (j : Int) < 256 := by omega
  have hqmi : (q : Int) < (m : Int) := by omega
  have hwq : IntKind.i64.wrap (q : Int) = (q : Int) := wrapN q (by omega)
  obtain ⟨b', rc', cap', RR, hv', hcl, h256, hbk, hzl, hzt, hne, hge, hset⟩ := HNB4.out.opn hqm
  simp only [Value.slice.injEq, Option.some.injEq, Addr.mk.injEq, and_true, true_and] at hv'
  obtain ⟨rfl, rfl⟩ := hv'
  obtain ⟨gq, hgq⟩ : ∃ g, g = G q := ⟨_, rfl⟩
  rw [← hgq] at hcl hbk hne hge hset
  obtain ⟨zs, hzs⟩ : ∃ zs, zs = cutB (hdB V3 l3) q := ⟨_, rfl⟩
  rw [← hzs] at hbk hzl hzt
  obtain ⟨a, ha⟩ : ∃ a, a = zs.getD j 0 := ⟨_, rfl⟩
  have ha8 : a < 256 := by rw [ha]; exact hzt _ (getD_mem _ _ (by omega))
  have hxy : bits .xor .u8 (a : Int) (by4 : Int) = ((a ^^^ by4 : Nat) : Int) := u8_xor_nat a by4 ha8 hby8
  have hy8 := xorb a by4 ha8 hby8
  obtain ⟨y, hy⟩ : ∃ y, y = a ^^^ by4 := ⟨_, rfl⟩
  have hya : y ≠ a := by rw [hy]; exact xor_ne hb0
  rw [← hy] at hxy hy8
  have hcm : w4.cell? ⟨gq, j, none⟩ = some (.int .u8 (a : Int)) := by
    rw [hbk.cell, List.getElem?_append_left (by simp [u8s]; omega), u8s_get _ _ (by omega), ha]
  have HCX : Hid (∀ w', Grow w4 w' → w'.cell? ⟨hb, q, none⟩ = some (.slice (some ⟨gq, 0, none⟩) 256 cap')) := fun w' k => grow_cell k hcl
  have HCM : Hid (∀ w', Grow w4 w' → w'.cell? ⟨gq, j, none⟩ = some (.int .u8 (a : Int))) := fun w' k => grow_cell k hcm
  have HBK : Hid (∀ w', Grow w4 w' → Blk w' gq 5 (u8s zs ++ RR)) := fun w' k => hbk.but k (fun h => h)
  have HZL : Hid (zs.length = 256) := hzl
  have HZT := Hid.mk' hzt
  have HYA : Hid (y ≠ zs.getD j 0) := by show _ ≠ _; rw [← ha]; exact hya
  have HY8 := Hid.mk' hy8
  have HZS := Hid.mk' hzs
  have HSET := Hid.mk' hset
  have HGE := Hid.mk' hge
  have HGQ := Hid.mk' hgq
  have HQM : Hid (q < m) := hqm
  have HJ8 : Hid (j < 256) := hj8
  clear hq hj hcl hbk hne hge hset hgq hzs ha hy hzl hzt hcm hya ha8
  go_upto_region 12 with fail
  refine region_chain [([0, 1, 2, 3, 4, 5, 6, 7, 8, 9, 10, 11, 12, 13, 14, 15, 16, 17, 18], 19)] [] (Grow w4) (Grow w4) (by kernel_rfl) (by kernel_rfl) (fun _ _ h k => h.trans k) (fun _ h => h) ((But.refl _ w4).drew) ?_
  intro ι hne X hX
  have c1 : ∀ z, (X z).cell? ⟨hb, q, none⟩ = some (.slice (some ⟨gq, 0, none⟩) 256 cap') := fun z => HCX.out (X z) (hX z)
  have c2 : ∀ z, (X z).cell? ⟨gq, j, none⟩ = some (.int .u8 (a : Int)) := fun z => HCM.out (X z) (hX z)
  iterate 19 (refine still_step rfl (fun K hK => ?_); go_simp; refine hK _ ?_; clear hK K)
  refine still_nil ?_
  clear hX hne c1 c2
  refine turn_run rfl rfl (fun _ w' => Blk w' gq 5 (u8s (zs.set j y) ++ RR) ∧ But (· = gq) w4 w') (fun _ _ => True) (fun _ w1 w2 h k => ⟨h.1.but k (fun h => h), h.2.trans (k.mono (fun _ _ h => h.elim))⟩) (fun _ _ _ => trivial) (.inl (by kernel_rfl)) ?_ ?_
  · intro w6 hw6
    have hb6 := HBK.out w6 hw6
    refine turn_store (t := 5) (by kernel_rfl) rfl rfl rfl rfl hb6 (i := j) (by simp [u8s]; have := HZL.out; have := HJ8.out; omega) ⟨?_, ?_⟩
    · have := hb6.set j (.int .u8 (y : Int))
      rw [List.set_append_left _ _ (by simp [u8s]; have := HZL.out; have := HJ8.out; omega), u8s_set] at this
      exact this
    · exact (hw6.mono (fun _ _ h => h.elim)).trans (But.set1 w6 gq j _)
  rintro z - Y hY
  go_simp
  refine hY _ ?_
  clear hY Y
  intro ι hne X hX
  refine still_nil ?_
  clear hX hne
  rintro wb ⟨hbb, hkb⟩
  have hzl2 : (zs.set j y).length = 256 := by rw [List.length_set]; exact HZL.out
  have hzt2 : ∀ z ∈ zs.set j y, z < 256 := fun z hz => by
    rcases List.mem_or_eq_of_mem_set hz with h | h
    · exact HZT.out z h
    · rw [h]; exact HY8.out
  have hnb := HSET.out wb (zs.set j y) hzl2 hzt2 hbb hkb
  obtain ⟨TQ, hTQ⟩ : ∃ TQ, TQ = (List.range m).map (upd (cutB (hdB V3 l3)) q (zs.set j y)) := ⟨_, rfl⟩
  have hpsb := hnb.ps
  rw [← hTQ] at hpsb
  have hqne : cutN (hdB V3 l3) m ≠ TQ := fun e => by
    have h1 := congrArg (fun L => L.getD q []) e
    simp only [cutN_get HQM.out] at h1
    rw [hTQ] at h1
    simp only [List.getD, List.getElem?_map, List.getElem?_range HQM.out, Option.map_some, Option.getD_some, upd_same] at h1
    rw [← HZS.out] at h1
    exact set_ne (by rw [HZL.out]; exact HJ8.out) HYA.out h1
  have hTQl : TQ.length = m := by rw [hTQ]; simp
  have hgb : Grow w wb := HG4.out.then hkb (fun i hi e => by have := HGE.out; omega)
  have HGB := Hid.mk' hgb
  have HJ := Hid.mk' (jopen_any hpsb HCAP.out (by rw [hTQl]; omega) hb1 hb2)
  rw [← HM.out] at HJ
  have HQNE := Hid.mk' hqne
  have HNMB := Hid.mk' (HNM4.out.but hkb (fun j' hj' hl e => by
    have h1 := HNEW.out j' hj'
    have h2 := HGX2.out q HQM.out
    rw [← HGQ.out] at h2
    omega))
  have HV3 : Hid (V3 < 18446744073709551616 ∧ l3.length ≤ b ∧ ∀ x ∈ l3, x ≤ 65535) := ⟨HV.out, HLB.out, HX.out⟩
  clear hbb hkb hzl2 hzt2 hnb hTQ hpsb hqne hTQl hgb hdq hmq hxy hy8 hj8 hj8i hqmi hwq hqm HSET HCX HCM HBK HNM4 HNB4 HNB3 HNB2
  go_wp2_with fail
  refine Calls.mono HJ.out ?_
  rintro e w6 ⟨V6, l6, f6, bv6, rfl, ho6, hnm6, hg6, -⟩
  have HG6 := Hid.mk' (HGB.out.trans hg6)
  have HNM6 := Hid.mk' hnm6
  have HNMC := Hid.mk' (HNMB.out.grow hg6)
  obtain ⟨b6, c6, hbe⟩ := hnm6.len
  have hl6 : (toI l6).length = l6.length := toI_len l6
  rcases ho6 with ⟨rfl, h2, h3, h4, h5⟩ | ⟨rfl, rfl, rfl, -⟩
  · have hne : V6 ≠ V3 ∨ (V6 = V3 ∧ l6 ≠ l3) := by
      by_cases hv : V6 = V3
      · exact .inr ⟨hv, fun e => HQNE.out (by rw [← h5, hv, e])⟩
      · exact .inl hv
    generalize (toI l6).length = ln6 at hbe
    subst hbe
    clear hnm6 hg6 h2 h3 h4 h5 HJ hl6
    rcases hne with hv | ⟨hv, hll⟩
    · have ev : ((V6 : Int) != (V3 : Int)) = true := by
        have : (V6 : Int) ≠ (V3 : Int) := by omega
        simpa using this
      clear hv
      go_wp2_with fail
      refine Calls.mono (jawake_any w6) ?_
      rintro e w7 ⟨rfl, hg7⟩
      have HG7 := Hid.mk' (HG6.out.trans hg7)
      clear hg7
      go_wp2
      go_ret
      exact ⟨rfl, HG7.out.below (Nat.le_refl _) (fun _ _ h => h)⟩
    · subst hv
      have hsi := sameints_any HNM6.out HNMC.out
      rw [decide_eq_false (fun e => hll (toI_inj e))] at hsi
      have HSI := Hid.mk' hsi
      clear hsi hll
      go_wp2_with fail
      refine Calls.mono HSI.out ?_
      rintro e w7 ⟨rfl, hg7⟩
      have HG7 := Hid.mk' (HG6.out.trans hg7)
      clear hg7
      go_wp2_with fail
      refine Calls.mono (jawake_any w7) ?_
      rintro e w8 ⟨rfl, hg8⟩
      have HG8 := Hid.mk' (HG7.out.trans hg8)
      clear hg8
      go_wp2
      go_ret
      exact ⟨rfl, HG8.out.below (Nat.le_refl _) (fun _ _ h => h)⟩
  · rw [show (toI []).length = 0 from rfl] at hbe
    subst hbe
    clear hnm6 hg6 hl6 HJ
    go_wp2_with fail
    refine Calls.mono (jawake_any w6) ?_
    rintro e w7 ⟨rfl, hg7⟩
    have HG7 := Hid.mk' (HG6.out.trans hg7)
    clear hg7
    go_wp2
    go_ret
    exact ⟨rfl, HG7.out.below (Nat.le_refl _) (fun _ _ h => h)⟩

set_option maxRecDepth 100000 in
theorem journalBack_lifted (os : Os) (started : os.Started) (H : Type) (enc : TypeId × Value → H) :
    ReturnsInHanded {} Try.checked os 4 .any (Rows.journalBackSpec.pre6 enc Try.prog Try.f4 Rows.journalBackRow.domain false) (Rows.journalBackSpec.post enc Try.prog Try.f4 false true false false) := by
  refine returnsInHanded_of_change_sized (C := Try.checked) (by kernel_rfl) started (by kernel_rfl) Try.func4
    (ChangeSpec.witness6 (enc := enc) (C := Try.checked) false ⟨#[], #[.int .u64 0, .slice none 0 0, .int .i64 0, .int .i64 0, .int .u8 0], []⟩ 8 (by kernel_rfl) (by kernel_rfl) (by kernel_rfl) (by kernel_rfl)) ?_
  intro W base args ds gs before hval0 hW hcnd hsz0 _
  have hsz : (DataW.weightsEach Try.prog (Try.f4.params.toList ++ Rows.journalBackSpec.plain.varTypes Try.prog) (ds ++ gs)).all (· ≤ reachBytes) = true := hsz0
  clear hsz0
  have hval : ∀ (j : Nat) t v, Try.f4.params[j]? = some t → args[j]? = some v → Value.okWide Try.prog W .any base t v := hval0
  have hW' := hW
  obtain ⟨p, q, hA0, hV, rfl, hfz, hnd⟩ := hW
  have hA : DataW.TrodAll enc Try.prog W 0 (fun _ => true) true Try.f4.params.toList args.toList ds p := hA0
  rw [Try.params4] at hA hval hsz
  obtain ⟨v0, vs0, d0, ds0, p0, q0, hargs, rfl, rfl, h0, r0⟩ := trodAll_cons hA
  obtain ⟨v1, vs1, d1, ds1, p1, q1, rfl, rfl, rfl, h1, r1⟩ := trodAll_cons r0
  obtain ⟨v2, vs2, d2, ds2, p2, q2, rfl, rfl, rfl, h2, r2⟩ := trodAll_cons r1
  obtain ⟨v3, vs3, d3, ds3, p3, q3, rfl, rfl, rfl, h3, r3⟩ := trodAll_cons r2
  obtain ⟨v4, vs4, d4, ds4, p4, q4, rfl, rfl, rfl, h4, r4⟩ := trodAll_cons r3
  obtain ⟨rfl, rfl, rfl⟩ := trodAll_nil r4
  obtain rfl : args = #[v0, v1, v2, v3, v4] := by cases args; simp_all
  obtain ⟨rfl, rfl⟩ := trodVars_none hV
  obtain ⟨a0, rfl, rfl, rfl, w0⟩ := open_int Try.underlying25 (hval 0 25 v0 rfl rfl) h0
  have lt1 : ∀ x ∈ p1, x.block < W.heap.size := by obtain ⟨m, hm⟩ := h1; exact DataW.trod_lt m _ _ _ hm
  obtain ⟨z1, w1⟩ := view_nums Try.underlying26 Try.underlying3 (by kernel_rfl) (by kernel_rfl) (hval 1 26 v1 rfl rfl) h1 lt1 hsz (j := 1) rfl rfl
  obtain ⟨a2, rfl, rfl, rfl, w2⟩ := open_int Try.underlying3 (hval 2 3 v2 rfl rfl) h2
  obtain ⟨a3, rfl, rfl, rfl, w3⟩ := open_int Try.underlying3 (hval 3 3 v3 rfl rfl) h3
  obtain ⟨a4, rfl, rfl, rfl, w4⟩ := open_int Try.underlying5 (hval 4 5 v4 rfl rfl) h4
  clear hA0 hval0
  refine (journalBack_walk a0 v1 z1 a2 a3 a4 W w0 w1 w2 w3 w4).mono fun e W' ⟨he, bel⟩ => ?_
  subst he
  exact ⟨_, rfl, _, _, _, [], _, [], hW', trodAll_mk1 (shut_bool Try.underlying4 _), (trodAll_cons_mk (shut_int Try.underlying25 w0) (trodAll_cons_mk (Below.trod (by kernel_rfl) (by kernel_rfl) (of_decide_eq_true (by kernel_rfl)) h1 bel lt1) (trodAll_cons_mk (shut_int Try.underlying3 w2) (trodAll_cons_mk (shut_int Try.underlying3 w3) (trodAll_cons_mk (shut_int Try.underlying5 w4) trodAll_mk0))))), rfl, bel.frame _, fun h => by cases h⟩

theorem journalBack_holds : Rows.JournalBackSaid :=
  OpenClaim.holds_of_wide 4 Try.f4 rfl rfl rfl rfl rfl rfl rfl ⟨rfl, rfl, rfl, rfl, rfl⟩ rfl rfl rfl rfl rfl (by kernel_rfl) Try.func4 (by kernel_rfl)
    (of_decide_eq_true (by kernel_rfl)) (by unfold Func.isWrapper; first | (rw [if_pos (by decide +kernel)]; kernel_rfl) | (rw [if_neg (by decide +kernel)]; exact ⟨rfl, rfl⟩))
    (fun os started H enc _ => journalBack_lifted os started H enc)
#print axioms journalBack_holds
end Go.Proofs.Ytmlladpmecclbaa
