/- For any half and any acts: each heat is the document's, to the last bit, and a half that may not be is refused. No condition. -/
import Derived.Test.YtmepjgdopfgdhaaHtColds
import Derived.ProofKit
import Derived.OpenShut
import Derived.ChangeOld
import Derived.Below
namespace Go.Proofs.Ytmepjgdopfgdhaa
open Go.ChangeShapes Go.WideShapes Go.ChangeAt Go.RowKit

theorem iAc : (Try.prog.info? 34).map (·.size) = some 3 := by kernel_rfl
theorem hac_one (a : HA) : ∀ u ∈ hac a, u.oneCell' = true := by
  intro u hu
  unfold hac at hu
  rcases List.mem_cons.1 hu with rfl | hu
  · rfl
  rcases List.mem_cons.1 hu with rfl | hu
  · rfl
  rcases List.mem_cons.1 hu with rfl | hu
  · rfl
  · cases hu
set_option maxRecDepth 100000 in
theorem heatPlays_bad (x : Int) (v1 : Value) (w : World) (hx : ¬ (1 ≤ x ∧ x ≤ 1000)) :
    Calls Try.prog 3 #[.int .i64 x, v1] w fun e w' => e = .returned (.bool true) ∧ Below w.heap.size w w' := by
  have HNA := Hid.mk' (new_arg w x hx)
  rcases (by omega : x < 1 ∨ (1 ≤ x ∧ 1000 < x)) with h1 | ⟨h1, h2⟩
  · clear hx
    go_enter Try.func3, Try.ntmps3
    go_wp2_with fail
    refine Calls.mono HNA.out ?_
    rintro e w' ⟨rfl, hw⟩
    have h2 := hw.symm
    subst h2
    clear hw
    go_wp2_with fail
    refine Calls.mono (awake_any _) ?_
    rintro e w5 ⟨rfl, hg5⟩
    have HG5 := Hid.mk' hg5
    clear hg5
    go_wp2
    go_ret
    exact ⟨rfl, HG5.out.below (Nat.le_refl _) (fun _ _ h => h)⟩
  · have h1' : ¬ x < 1 := by omega
    clear hx
    go_enter Try.func3, Try.ntmps3
    go_wp2_with fail
    refine Calls.mono HNA.out ?_
    rintro e w' ⟨rfl, hw⟩
    have h2 := hw.symm
    subst h2
    clear hw
    go_wp2_with fail
    refine Calls.mono (awake_any _) ?_
    rintro e w5 ⟨rfl, hg5⟩
    have HG5 := Hid.mk' hg5
    clear hg5
    go_wp2
    go_ret
    exact ⟨rfl, HG5.out.below (Nat.le_refl _) (fun _ _ h => h)⟩
/-- What is behind so many acts. -/
structure Pl (w wr : World) (gh gm gx half i : Nat) : Prop where
  ex : ∃ now L, now ≤ i ∧ Hx w wr gh gm gx half now (look L) now L
theorem Pl.grow {w wr w' : World} {gh gm gx half i : Nat} (h : Pl w wr gh gm gx half i) (k : Grow wr w') : Pl w w' gh gm gx half i := by
  obtain ⟨now, L, h1, h2⟩ := h.ex
  exact ⟨now, L, h1, h2.then k⟩
set_option maxRecDepth 100000 in
set_option maxHeartbeats 4000000 in
theorem heatPlays_good (half : Nat) (v1 : Value) (n : Nat) (A : Nat → HA) (w : World) (hv : HActs w v1 n A) (hb1 : 1 ≤ half) (hb2 : half ≤ 1000) :
    Calls Try.prog 3 #[.int .i64 (half : Int), v1] w fun e w' => e = .returned (.bool true) ∧ Below w.heap.size w w' := by
  have HV := Hid.mk' hv
  have hnl := hv.1
  obtain ⟨ao, cap, rfl⟩ := hv.len
  have HNW := Hid.mk' (new_any w half hb1 hb2)
  have i1 : ¬ ((half : Int) < 1) := by omega
  have i2 : ¬ (1000 < (half : Int)) := by omega
  obtain ⟨g, hg⟩ : ∃ g, g = w.heap.size := ⟨_, rfl⟩
  rw [← hg] at HNW
  have HGE := Hid.mk' hg
  clear hv hg hb1 hb2
  go_enter Try.func3, Try.ntmps3
  go_wp2_with fail
  refine Calls.mono HNW.out ?_
  rintro e w1 ⟨rfl, h1, k1⟩
  have HB := Hid.mk' (Hx.begin HGE.out h1 k1)
  obtain ⟨gx, hgx⟩ : ∃ gx, gx = w1.heap.size := ⟨_, rfl⟩
  rw [← hgx] at HB
  clear h1 k1 HNW
  go_wp2
  rw [← hgx]
  clear hgx i1 i2
  go_loopw [8] (fun iv wr => ∃ i : Nat, i ≤ n ∧ i ≤ 200 ∧ iv = .int .i64 i ∧ Pl w wr (g + 1) g gx half i) (fun iv _ => n - (intOf iv).toNat)
  case atStart => exact ⟨0, Nat.zero_le _, Nat.zero_le _, rfl, 0, [], Nat.le_refl _, HB.out⟩
  case round =>
    obtain ⟨wo, hwo⟩ : ∃ wo, wo = wr := ⟨_, rfl⟩
    subst hwo
    obtain ⟨i, hin, hi2, rfl, hP⟩ := hrel
    have HP := Hid.mk' hP
    clear hP
    by_cases hgo : i < n ∧ i < 200
    · obtain ⟨hlt, h200⟩ := hgo
      have hlti : (i : Int) < (n : Int) := by omega
      have h200i : (i : Int) < 200 := by omega
      obtain ⟨b, off, cp, e1, hbl, hcell⟩ := HV.out.at hlt
      simp only [Value.slice.injEq] at e1
      obtain ⟨rfl, -, rfl⟩ := e1
      have HCE := Hid.mk' hcell
      obtain ⟨now, L, hno, hX⟩ := HP.out.ex
      have HX := Hid.mk' hX
      obtain ⟨hok, hcel⟩ := hcell i hlt
      obtain ⟨a, ha⟩ : ∃ a, a = A i := ⟨_, rfl⟩
      rw [← ha] at hok hcel
      have HCW : Hid (∀ c u, (hac a)[c]? = some u → wo.cell? ((⟨b, off + i * 3, none⟩ : Addr).add c) = some u) := fun c u hc => by rw [addr_add]; exact grow_cell hX.grow (hcel c u hc)
      have HOK := Hid.mk' hok
      obtain ⟨qb, hqb⟩ : ∃ qb, qb = wo.heap.size := ⟨_, rfl⟩
      have HQ := Hid.mk' hqb
      have HG0 : Hid (Grow wo (wo.alloc (.cells #[.int .i64 0, .int .i64 0, .float .f64 0] 34))) := (But.refl _ wo).alloc _
      have HB0 : Hid (Blk (wo.alloc (.cells #[.int .i64 0, .int .i64 0, .float .f64 0] 34)) qb 34 [.int .i64 0, .int .i64 0, .float .f64 0]) := Blk.new (L := [.int .i64 0, .int .i64 0, .float .f64 0]) hqb.symm
      obtain ⟨kd, key, y⟩ := a
      clear hX hcell hcel hok ha hqb
      go_upto_region 9 with (first
        | (refine wpList_load_cells rfl _ _ rfl ⟨b, off + i * 3, none⟩ rfl (hac ⟨kd, key, y⟩) _ HCW.out Try.underlying34 rfl iAc ?_)
        | (refine wpList_store_at rfl _ _ _ rfl qb 0 (hac ⟨kd, key, y⟩) (by rw [HQ.out]; rfl) rfl 34 [] [.int .i64 0, .int .i64 0, .float .f64 0] [] (by simpa using HB0.out) rfl rfl iAc (hac_one _) ?_; intro w2 hb2 hbut2; rw [List.nil_append, List.append_nil] at hb2)
        | fail)
      rw [← HQ.out]
      have HGW : Hid (Grow wo w2) := HG0.out.then hbut2 (fun j hj e => by have := HQ.out; omega)
      have HB2 := Hid.mk' hb2
      have HX2 := Hid.mk' (HX.out.then HGW.out)
      have HNE : Hid (qb ≠ g + 1 ∧ qb ≠ g ∧ qb ≠ gx) := by
        have h5 := HX.out.h.lt
        obtain ⟨v9, h9, -⟩ := HX.out.x
        have h6 := h9.blk.lt
        have h7 := HQ.out
        refine ⟨?_, ?_, ?_⟩ <;> omega
      have c0 : w2.cell? ⟨qb, 0, none⟩ = some (.int .i64 kd) := hb2.cell 0
      have c1 : w2.cell? ⟨qb, 1, none⟩ = some (.int .i64 key) := hb2.cell 1
      have c2 : w2.cell? ⟨qb, 2, none⟩ = some (.float .f64 y) := hb2.cell 2
      clear hb2 hbut2 HCW HG0 HB0
      have hnb : now < 1000000 := by omega
      have HNB := Hid.mk' hnb
      have HNO := Hid.mk' hno
      clear hnb hno
      have HTAIL : Hid (∀ w5, Pl w w5 (g + 1) g gx half (i + 1) → Grow w w5) := fun w5 h => by obtain ⟨_, _, _, h⟩ := h.ex; exact h.grow
      cases hkd : (bits BinOp.and IntKind.i64 kd 3 == 0)
      case' true =>
        go_wp2_with fail
        refine Calls.mono (hx_drop HX2.out HOK.out.2.1) ?_
        rintro e w3 ⟨rfl, hx3, hbu3⟩
        have HX3 := Hid.mk' hx3
        have c13 : w3.cell? ⟨qb, 1, none⟩ = some (.int .i64 key) := (HB2.out.but hbu3 (fun e => e.elim HNE.out.1 HNE.out.2.1)).cell 1
        clear hx3 hbu3 c0 c1 c2
        go_wp2_with fail
        refine Calls.mono (hx_rdrop HX3.out) ?_
        rintro e w4 ⟨rfl, hx4, -⟩
        have HP4 : Hid (Pl w w4 (g + 1) g gx half (i + 1)) := ⟨now, _, by have := HNO.out; omega, by rw [look_dropped]; exact hx4⟩
        clear hx4 c13 HX3
      case' false =>
        go_wp2_with fail
        refine Calls.mono (hx_touch HX2.out HOK.out.2.1 HNB.out) ?_
        rintro e w3 ⟨rfl, hx3, hbu3⟩
        have HX3 := Hid.mk' hx3
        have hb3 := HB2.out.but hbu3 (fun e => e.elim HNE.out.1 HNE.out.2.1)
        have c13 : w3.cell? ⟨qb, 1, none⟩ = some (.int .i64 key) := hb3.cell 1
        have c23 : w3.cell? ⟨qb, 2, none⟩ = some (.float .f64 y) := hb3.cell 2
        clear hx3 hbu3 c0 c1 c2 hb3
        go_wp2_with fail
        refine Calls.mono (hx_rtouch HX3.out HOK.out.2.1 HNB.out) ?_
        rintro e w4 ⟨rfl, hx4, -⟩
        have HP4 : Hid (Pl w w4 (g + 1) g gx half (i + 1)) := ⟨now + 1, _, by have := HNO.out; omega, by rw [look_touched]; exact hx4⟩
        clear hx4 c13 c23 HX3
      all_goals
        clear hkd HX2 HX HNE HB2 HGW HOK HNB HNO
        go_wp2
        go_loopw [10] (fun kv wr => ∃ k : Nat, k ≤ i + 1 ∧ kv = .int .i64 k ∧ Grow w4 wr) (fun kv _ => i + 1 - (intOf kv).toNat)
        case atStart => exact ⟨0, Nat.zero_le _, rfl, But.refl _ _⟩
        case round =>
          obtain ⟨k, hk1, rfl, hG⟩ := hrel
          have HG := Hid.mk' hG
          clear hG
          by_cases hk : k ≤ i
          · have hki : (k : Int) ≤ (i : Int) := by omega
            have hkn : (k : Int) < (n : Int) := by omega
            obtain ⟨hok, hcel⟩ := HCE.out k (by omega)
            obtain ⟨z, hz⟩ : ∃ z, z = (A k).key := ⟨_, rfl⟩
            have HKI : Hid (i64 z) := by rw [hz]; exact hok.2.1
            obtain ⟨now', L', -, hX4⟩ := HP4.out.ex
            have HX4 := Hid.mk' hX4
            have HCZ : Hid (∀ w', Grow w4 w' → w'.cell? ⟨b, off + k * 3 + 1, none⟩ = some (.int .i64 z)) := fun w' kk => by rw [hz]; exact grow_cell (hX4.grow.trans kk) (hcel 1 _ rfl)
            have HO1 := Hid.mk' (fun w' (kk : Grow w4 w') => hx_of (hX4.then kk) HKI.out)
            have HO2 := Hid.mk' (fun w' (kk : Grow w4 w') => hx_rof (K := z) (hX4.then kk))
            have HLT := Hid.mk' (hof_lt (half := half) hX4.h.ok z)
            obtain ⟨f, hf⟩ : ∃ f, f = hof half now' (look L') z := ⟨_, rfl⟩
            rw [← hf] at HO1 HO2 HLT
            have HSA := Hid.mk' (fun w => same_any f f w HLT.out HLT.out)
            rw [sa_refl] at HSA
            clear hok hcel hz hX4 hf HX4
            go_upto_region 17 with fail
            refine region_chain [] [0, 1, 2, 3, 4, 5, 6, 7, 8, 9, 10, 11, 12, 13, 14, 15] (Grow wr) (Grow wr) (by kernel_rfl) (by kernel_rfl) (fun _ _ h k => h.trans k) (fun _ h => h) ((But.refl _ wr).drew) ?_
            intro ι hne X hX
            have d1 : ∀ x, (X x).cell? ⟨b, off + k * 3 + 1, none⟩ = some (.int .i64 z) := fun x => HCZ.out _ (HG.out.trans (hX x))
            iterate 6 (refine still_step rfl (fun K hK => ?_); go_simp; refine hK _ ?_; clear hK K)
            refine still_call rfl (.float .f64 f) 16 #[.pointer (some ⟨g + 1, 0, none⟩), .int .i64 z] rfl (fun x => by kernel_rfl) (fun x => HO1.out _ (HG.out.trans (hX x))) ?_
            intro K hK; go_simp; refine hK _ ?_; clear hK K
            iterate 6 (refine still_step rfl (fun K hK => ?_); go_simp; refine hK _ ?_; clear hK K)
            refine still_call rfl (.float .f64 f) 17 #[.pointer (some ⟨gx, 0, none⟩), .int .i64 z] rfl (fun x => by kernel_rfl) (fun x => HO2.out _ (HG.out.trans (hX x))) ?_
            intro K hK; go_simp; refine hK _ ?_; clear hK K
            refine still_call rfl (.bool true) 15 #[.float .f64 f, .float .f64 f] rfl (fun x => by kernel_rfl) (fun x => (HSA.out (X x)).mono (fun e w' h => ⟨h.1, by rw [h.2]; exact But.refl _ _⟩)) ?_
            intro K hK; go_simp; refine hK _ ?_; clear hK K
            iterate 1 (refine still_step rfl (fun K hK => ?_); go_simp; refine hK _ ?_; clear hK K)
            refine still_nil ?_
            clear hX hne d1
            intro w6 hw6
            have HG6 := Hid.mk' (HG.out.trans hw6)
            clear hw6
            go_wp2
            exact ⟨⟨k + 1, by omega, by go_num, HG6.out⟩, by simp [intOf]; omega⟩
          · have hki : ¬ ((k : Int) ≤ (i : Int)) := by omega
            go_wp2
            exact ⟨⟨i + 1, by omega, by omega, by go_num, HP4.out.grow HG.out⟩, by simp [intOf]; omega⟩
    · rcases (by omega : ¬ i < n ∨ (i < n ∧ ¬ i < 200)) with h1 | ⟨h1, h2⟩
      · have hlti : ¬ ((i : Int) < (n : Int)) := by omega
        clear hgo
        go_wp2_with fail
        refine Calls.mono (awake_any _) ?_
        rintro e w2 ⟨rfl, hg2⟩
        have HG2 : Hid (Grow w w2) := by obtain ⟨_, _, _, h⟩ := HP.out.ex; exact h.grow.trans hg2
        clear hg2
        go_wp2
        go_ret
        exact ⟨rfl, HG2.out.below (Nat.le_refl _) (fun _ _ h => h)⟩
      · have hlti : (i : Int) < (n : Int) := by omega
        have h200i : ¬ ((i : Int) < 200) := by omega
        clear hgo
        go_wp2_with fail
        refine Calls.mono (awake_any _) ?_
        rintro e w2 ⟨rfl, hg2⟩
        have HG2 : Hid (Grow w w2) := by obtain ⟨_, _, _, h⟩ := HP.out.ex; exact h.grow.trans hg2
        clear hg2
        go_wp2
        go_ret
        exact ⟨rfl, HG2.out.below (Nat.le_refl _) (fun _ _ h => h)⟩
theorem heatPlays_walk (x : Int) (v1 : Value) (n : Nat) (A : Nat → HA) (w : World) (_ : (Lit.int .i64 x).wf = true) (hv : HActs w v1 n A) :
    Calls Try.prog 3 #[.int .i64 x, v1] w fun e w' => e = .returned (.bool true) ∧ Below w.heap.size w w' := by
  by_cases hx : 1 ≤ x ∧ x ≤ 1000
  · obtain ⟨half, rfl⟩ : ∃ half : Nat, x = (half : Int) := ⟨x.toNat, by omega⟩
    exact heatPlays_good half v1 n A w hv (by omega) (by omega)
  · exact heatPlays_bad x v1 w hx

set_option maxRecDepth 100000 in
theorem heatPlays_lifted (os : Os) (started : os.Started) (H : Type) (enc : TypeId × Value → H) :
    ReturnsInHanded {} Try.checked os 3 .any (Rows.heatPlaysSpec.pre6 enc Try.prog Try.f3 Rows.heatPlaysRow.domain false) (Rows.heatPlaysSpec.post enc Try.prog Try.f3 false true false false) := by
  refine returnsInHanded_of_change_sized (C := Try.checked) (by kernel_rfl) started (by kernel_rfl) Try.func3
    (ChangeSpec.witness6 (enc := enc) (C := Try.checked) false ⟨#[], #[.int .i64 0, .slice none 0 0], []⟩ 8 (by kernel_rfl) (by kernel_rfl) (by kernel_rfl) (by kernel_rfl)) ?_
  intro W base args ds gs before hval0 hW hcnd hsz0 _
  have hsz : (DataW.weightsEach Try.prog (Try.f3.params.toList ++ Rows.heatPlaysSpec.plain.varTypes Try.prog) (ds ++ gs)).all (· ≤ reachBytes) = true := hsz0
  clear hsz0
  have hval : ∀ (j : Nat) t v, Try.f3.params[j]? = some t → args[j]? = some v → Value.okWide Try.prog W .any base t v := hval0
  have hW' := hW
  obtain ⟨p, q, hA0, hV, rfl, hfz, hnd⟩ := hW
  have hA : DataW.TrodAll enc Try.prog W 0 (fun _ => true) true Try.f3.params.toList args.toList ds p := hA0
  rw [Try.params3] at hA hval hsz
  obtain ⟨v0, vs0, d0, ds0, p0, q0, hargs, rfl, rfl, h0, r0⟩ := trodAll_cons hA
  obtain ⟨v1, vs1, d1, ds1, p1, q1, rfl, rfl, rfl, h1, r1⟩ := trodAll_cons r0
  obtain ⟨rfl, rfl, rfl⟩ := trodAll_nil r1
  obtain rfl : args = #[v0, v1] := by cases args; simp_all
  obtain ⟨rfl, rfl⟩ := trodVars_none hV
  obtain ⟨a0, rfl, rfl, rfl, w0⟩ := open_int Try.underlying3 (hval 0 3 v0 rfl rfl) h0
  have lt1 : ∀ x ∈ p1, x.block < W.heap.size := by obtain ⟨m, hm⟩ := h1; exact DataW.trod_lt m _ _ _ hm
  obtain ⟨n1, z1, w1⟩ := view_hacts (hval 1 22 v1 rfl rfl) h1 lt1 hsz (j := 1) rfl rfl
  clear hA0 hval0
  refine (heatPlays_walk a0 v1 n1 z1 W w0 w1).mono fun e W' ⟨he, bel⟩ => ?_
  subst he
  exact ⟨_, rfl, _, _, _, [], _, [], hW', trodAll_mk1 (shut_bool Try.underlying4 _), (trodAll_cons_mk (shut_int Try.underlying3 w0) (trodAll_cons_mk (Below.trod (by kernel_rfl) (by kernel_rfl) (of_decide_eq_true (by kernel_rfl)) h1 bel lt1) trodAll_mk0)), rfl, bel.frame _, fun h => by cases h⟩

theorem heatPlays_holds : Rows.HeatPlaysSaid :=
  OpenClaim.holds_of_wide 3 Try.f3 rfl rfl rfl rfl rfl rfl rfl ⟨rfl, rfl, rfl, rfl, rfl⟩ rfl rfl rfl rfl rfl (by kernel_rfl) Try.func3 (by kernel_rfl)
    (of_decide_eq_true (by kernel_rfl)) (by unfold Func.isWrapper; first | (rw [if_pos (by decide +kernel)]; kernel_rfl) | (rw [if_neg (by decide +kernel)]; exact ⟨rfl, rfl⟩))
    (fun os started H enc _ => heatPlays_lifted os started H enc)
#print axioms heatPlays_holds
end Go.Proofs.Ytmepjgdopfgdhaa
