/- Whoever has a latch alone is the only one that has it, whatever is asked for and let go: for any acts. No condition. -/
import Derived.Test.YtgldkckhliklhaaLtView
import Derived.Test.YtgldkckhliklhaaChain
import Derived.Test.YtgldkckhliklhaaPast
import Derived.Deep.Cut
namespace Go.Proofs.Ytgldkckhliklhaa
open Go.ChangeShapes Go.WideShapes Go.ChangeAt Go.RowKit Go.Maps

theorem alone_only {s : Ls} (hok : Lok s) {t u k : Int} (ht : t ≠ u) (h : s.hold t k = 2) : s.hold u k = 0 := by
  by_cases h0 : s.hold u k = 0
  · exact h0
  · obtain ⟨a, ha, e⟩ := hold_inv (t := t) (k := k) (s := s) (by rw [h]; decide)
    obtain ⟨b, hb, -⟩ := hold_inv h0
    cases a with
    | false => rw [h] at e; exact absurd e (by decide)
    | true =>
      have := hok.al _ ha _ hb rfl rfl
      simp only [Prod.mk.injEq] at this
      exact absurd this.1 ht
set_option maxRecDepth 100000 in
set_option maxHeartbeats 4000000 in
theorem latchAlone_walk (v0 : Value) (l : Nat) (A : Nat → LA) (w : World) (hv : LActs w v0 l A) : Calls Try.prog 4 #[v0] w fun e w' => e = .returned (.bool true) ∧ Below w.heap.size w w' := by
  obtain ⟨ao, cap, rfl⟩ := hv.len
  have HV := Hid.mk' hv
  have hl : (l : Int) ≤ 140737488351232 := by have := hv.1; omega
  have HN := Hid.mk' (ll_new w)
  clear hv
  go_enter Try.func4, Try.ntmps4
  go_wp2_with fail
  refine Calls.mono HN.out ?_
  rintro e w1 ⟨gt, rfl, h1⟩
  have H1 := Hid.mk' h1
  clear h1 HN
  go_wp2
  go_loopw [4] (fun iv wr => ∃ i : Nat, i ≤ l ∧ i ≤ 80 ∧ iv = .int .i64 i ∧ ∃ s, Ll (fun _ => False) w wr gt s ∧ s.has.length + s.q.length ≤ i) (fun iv _ => l - (intOf iv).toNat)
  case atStart => exact ⟨0, Nat.zero_le _, by decide, rfl, _, H1.out, Nat.le_refl _⟩
  case round =>
    clear H1
    obtain ⟨i, hil, hi80, rfl, s, hL, hs⟩ := hrel
    by_cases hlt : i < l ∧ i < 80
    · have hlti : (i : Int) < (l : Int) := by omega
      have hlt2 : (i : Int) < 80 := by omega
      obtain ⟨b, off, cap', e1, hbl, hA⟩ := HV.out.at hlt.1
      simp only [Value.slice.injEq] at e1
      obtain ⟨rfl, -, rfl⟩ := e1
      obtain ⟨⟨hok1, hok2, hok3⟩, hcell⟩ := hA i hlt.1
      have HOK2 := Hid.mk' hok2
      have HOK3 := Hid.mk' hok3
      have HONE := Hid.mk' (lac_one (A i))
      have HAA := Hid.mk' hA
      have hwg := hL.grow
      have HCW : Hid (∀ c u, (lac (A i))[c]? = some u → wr.cell? ((⟨b, off + i * 4, none⟩ : Addr).add c) = some u) := fun c u hc => by
        rw [addr_add]; exact grow_cell hwg (hcell c u hc)
      obtain ⟨g, hg⟩ : ∃ g, g = wr.heap.size := ⟨_, rfl⟩
      have HG := Hid.mk' hg
      have HAL : Hid (Grow wr (wr.alloc (.cells #[.int .i64 0, .int .i64 0, .int .i64 0, .bool false] 30))) := (But.refl _ wr).alloc _
      have HBZ : Hid (Blk (wr.alloc (.cells #[.int .i64 0, .int .i64 0, .int .i64 0, .bool false] 30)) g 30 [.int .i64 0, .int .i64 0, .int .i64 0, .bool false]) := Blk.new (L := [.int .i64 0, .int .i64 0, .int .i64 0, .bool false]) hg.symm
      have HL := Hid.mk' hL
      have HS := Hid.mk' hs
      have HLT := Hid.mk' hlt
      clear hL hs hA hok1 hok2 hok3 hcell hwg hbl hg hlt hil hi80
      go_upto_region 6 with (first
        | (refine wpList_load_cells rfl _ _ rfl ⟨b, off + i * 4, none⟩ rfl (lac (A i)) _ HCW.out Try.underlying30 rfl iLa ?_)
        | (refine wpList_store_at rfl _ _ _ rfl g 0 (lac (A i)) (by rw [HG.out]; rfl) rfl 30 [] [.int .i64 0, .int .i64 0, .int .i64 0, .bool false] [] (by simpa using HBZ.out) rfl rfl iLa HONE.out ?_; intro w3 hb3 hbut3; rw [List.nil_append, List.append_nil] at hb3)
        | fail)
      have HL3 : Hid (Ll (fun _ => False) w w3 gt s) := HL.out.then (HAL.out.then hbut3 (fun j hj e => by have := HG.out; omega))
      have a0 : w3.cell? ⟨g, 0, none⟩ = some (.int .i64 (A i).kind) := hb3.cell 0
      have a1 : w3.cell? ⟨g, 1, none⟩ = some (.int .i64 (A i).task) := hb3.cell 1
      have a2 : w3.cell? ⟨g, 2, none⟩ = some (.int .i64 (A i).key) := hb3.cell 2
      have a3 : w3.cell? ⟨g, 3, none⟩ = some (.bool (A i).alone) := hb3.cell 3
      have HP := Hid.mk' (pick_any (A i).kind 6 w3 (by decide) (by decide))
      generalize (A i).kind = kd at *
      generalize (A i).task = tk at *
      generalize (A i).key = ky at *
      generalize (A i).alone = al at *
      rw [← HG.out]
      clear hb3 hbut3 HAL HBZ HCW HL HONE
      go_wp2_with fail
      refine Calls.mono HP.out ?_
      rintro e w' ⟨rfl, hw⟩
      have h2 := hw.symm
      subst h2
      clear hw HP
      have HF := Hid.mk' (ll_free (t := tk) HL3.out HOK2.out (by have := HS.out; omega))
      have HA := Hid.mk' (ll_ask (t := tk) (k := ky) (a := al) HL3.out HOK2.out HOK3.out (by have := HS.out; omega))
      rcases (by omega : kd % 6 < 2 ∨ ¬ kd % 6 < 2) with hp | hp
      case' inl =>
        go_wp2_with fail
        refine Calls.mono HF.out ?_
        rintro e w4 ⟨v, G, s4, rfl, hf, -, h4, -, -⟩
        have H4 := Hid.mk' h4
        have HS4 : Hid (s4.has.length + s4.q.length ≤ i + 1) := Hid.mk' (by have := hf.sum; have := HS.out; omega)
        clear h4 hf
      case' inr =>
        go_wp2_with fail
        refine Calls.mono HA.out ?_
        rintro e w4 ⟨rfl, h4, -⟩
        have HS4 : Hid ((s.asked (tk, ky, al)).has.length + (s.asked (tk, ky, al)).q.length ≤ i + 1) := Hid.mk' (by have := asked_sum s (tk, ky, al); have := HS.out; omega)
        have H4 := Hid.mk' h4
        clear h4
        generalize s.asked (tk, ky, al) = s4 at *
        generalize s.got (tk, ky, al) = gx at *
        generalize s.askc (tk, ky, al) = gy at *
      all_goals
        clear HF HA HS HL3 a0 a1 a2 a3 HOK2 HOK3 hp
        go_wp2
        go_loopw [6] (fun kv wr => ∃ k : Nat, k ≤ i + 1 ∧ kv = .int .i64 k ∧ Grow w4 wr) (fun kv _ => i + 1 - (intOf kv).toNat)
        case atStart => exact ⟨0, Nat.zero_le _, rfl, But.refl _ _⟩
        case round =>
          obtain ⟨k, hk, rfl, hg4⟩ := hrel
          have HG4 := Hid.mk' hg4
          have HK := Hid.mk' hk
          clear hg4 hk
          by_cases hki : (k : Int) ≤ (i : Int)
          · go_wp2
            go_loopw [7] (fun jv wr => ∃ j : Nat, j ≤ i + 1 ∧ jv = .int .i64 j ∧ Grow w4 wr) (fun jv _ => i + 1 - (intOf jv).toNat)
            case atStart => exact ⟨0, Nat.zero_le _, rfl, HG4.out⟩
            case round =>
              clear HG4
              obtain ⟨j, hj, rfl, hg4⟩ := hrel
              have HG4 := Hid.mk' hg4
              have HJ := Hid.mk' hj
              clear hg4 hj
              by_cases hji : (j : Int) ≤ (i : Int)
              · have hkl : (k : Int) < (l : Int) := by omega
                have hjl : (j : Int) < (l : Int) := by omega
                obtain ⟨hokk, hck⟩ := HAA.out k (by omega)
                obtain ⟨hokj, hcj⟩ := HAA.out j (by omega)
                have hW4 := H4.out.grow
                have HCK1 := Hid.mk' (grow_cell hW4 (hck 1 _ rfl))
                have HCK2 := Hid.mk' (grow_cell hW4 (hck 2 _ rfl))
                have HCJ1 := Hid.mk' (grow_cell hW4 (hcj 1 _ rfl))
                have HHK : Hid (∀ w5, Grow w4 w5 → Calls Try.prog 18 #[ptr gt, .int .i64 (A k).task, .int .i64 (A k).key] w5 fun e w' => e = .returned (.int .i64 (s4.hold (A k).task (A k).key)) ∧ Grow w5 w') := fun w5 h5 => (ll_holds (H4.out.then h5) hokk.2.1 hokk.2.2).mono (fun e w' h => ⟨h.1, by rw [h.2]; exact But.refl _ _⟩)
                have HHJ : Hid (∀ w5, Grow w4 w5 → Calls Try.prog 18 #[ptr gt, .int .i64 (A j).task, .int .i64 (A k).key] w5 fun e w' => e = .returned (.int .i64 (s4.hold (A j).task (A k).key)) ∧ Grow w5 w') := fun w5 h5 => (ll_holds (H4.out.then h5) hokj.2.1 hokk.2.2).mono (fun e w' h => ⟨h.1, by rw [h.2]; exact But.refl _ _⟩)
                have HON : Hid ((A k).task ≠ (A j).task → s4.hold (A k).task (A k).key = 2 → s4.hold (A j).task (A k).key = 0) := Hid.mk' (fun h1 h2 => alone_only H4.out.ok h1 h2)
                clear hokk hck hokj hcj hW4
                generalize s4.hold (A k).task (A k).key = hA1 at *
                generalize s4.hold (A j).task (A k).key = hA2 at *
                generalize (A k).task = tk1 at *
                generalize (A k).key = ky1 at *
                generalize (A j).task = tj1 at *
                go_upto_region 15 with fail
                refine region_chain [] [0, 1, 2, 3, 4, 5, 6, 7, 8, 9, 10, 11, 12, 13, 14, 15, 16, 17, 18, 19, 20, 21, 22, 23, 24, 25, 26, 27, 28, 29, 30, 31, 32, 33, 34, 35, 36, 37, 38, 39, 40] (Grow w4) (Grow w4) (by kernel_rfl) (by kernel_rfl) (fun _ _ h k => h.trans k) (fun _ h => h) (HG4.out.drew) ?_
                intro ι hne X hX
                have d0 : ∀ z, (X z).cell? ⟨b, off + k * 4 + 1, none⟩ = some (.int .i64 tk1) := fun z => grow_cell (hX z) HCK1.out
                have d1 : ∀ z, (X z).cell? ⟨b, off + k * 4 + 2, none⟩ = some (.int .i64 ky1) := fun z => grow_cell (hX z) HCK2.out
                have d2 : ∀ z, (X z).cell? ⟨b, off + j * 4 + 1, none⟩ = some (.int .i64 tj1) := fun z => grow_cell (hX z) HCJ1.out
                by_cases hq : tj1 = tk1
                · have hq1 : (tj1 != tk1) = false := by simpa using hq
                  clear hq
                  iterate 11 (refine still_step rfl (fun K hK => ?_); go_simp; refine hK _ ?_; clear hK K)
                  refine still_step rfl (fun K hK => ?_)
                  have hK' := fun (a : Act) h1 h4 => hK a (still_pass1 (a := a) 11 true 60 (.bool false) [12, 13, 14, 15, 16, 17, 18, 19, 20, 21, 22, 23, 24] [25, 26, 27, 28, 29, 30, 31, 32, 33, 34, 35, 36, 37, 38, 39, 40] [61, 62, 63, 64, 65, 66, 67, 68, 69, 70, 71, 72, 73] rfl rfl (fun h => by cases h) (by kernel_rfl) (by kernel_rfl) h1 h4)
                  clear hK
                  go_simp
                  refine hK' _ (by kernel_rfl) ?_
                  clear hK' K
                  intro K hK
                  simp only [undefL]
                  go_simp
                  refine hK _ ?_
                  clear hK K
                  iterate 1 (refine still_step rfl (fun K hK => ?_); go_simp; refine hK _ ?_; clear hK K)
                  refine still_step rfl (fun K hK => ?_)
                  have hK' := fun (a : Act) h1 h4 => hK a (still_pass1 (a := a) 26 true 75 (.bool false) [27, 28, 29, 30, 31, 32, 33, 34, 35, 36, 37, 38, 39] [40] [76, 77, 78, 79, 80, 81, 82, 83, 84, 85, 86, 87, 88] rfl rfl (fun h => by cases h) (by kernel_rfl) (by kernel_rfl) h1 h4)
                  clear hK
                  go_simp
                  refine hK' _ (by kernel_rfl) ?_
                  clear hK' K
                  intro K hK
                  simp only [undefL]
                  go_simp
                  refine hK _ ?_
                  clear hK K
                  iterate 1 (refine still_step rfl (fun K hK => ?_); go_simp; refine hK _ ?_; clear hK K)
                  refine still_nil ?_
                  clear hX hne d0 d1 d2
                  intro w5 hw5
                  have HW5 := Hid.mk' hw5
                  clear hw5
                  go_wp2
                  refine ⟨⟨j + 1, by omega, by simp, HW5.out⟩, ?_⟩
                  show i + 1 - ((j : Int) + 1).toNat < i + 1 - ((j : Int)).toNat
                  omega
                · have hq1 : (tj1 != tk1) = true := by simpa using hq
                  iterate 23 (refine still_step rfl (fun K hK => ?_); go_simp; refine hK _ ?_; clear hK K)
                  refine still_call rfl (.int .i64 hA1) 18 #[ptr gt, .int .i64 tk1, .int .i64 ky1] rfl (fun x => by kernel_rfl) (fun x => HHK.out _ (hX x)) ?_
                  intro K hK; go_simp; refine hK _ ?_; clear hK K
                  by_cases h2 : hA1 = 2
                  · have hq2 : (hA1 == 2) = true := by simpa using h2
                    have hz := HON.out (fun e => hq e.symm) h2
                    subst hz
                    clear hq h2
                    iterate 14 (refine still_step rfl (fun K hK => ?_); go_simp; refine hK _ ?_; clear hK K)
                    refine still_call rfl (.int .i64 0) 18 #[ptr gt, .int .i64 tj1, .int .i64 ky1] rfl (fun x => by kernel_rfl) (fun x => HHJ.out _ (hX x)) ?_
                    intro K hK; go_simp; refine hK _ ?_; clear hK K
                    iterate 2 (refine still_step rfl (fun K hK => ?_); go_simp; refine hK _ ?_; clear hK K)
                    refine still_nil ?_
                    clear hX hne d0 d1 d2
                    intro w5 hw5
                    have HW5 := Hid.mk' hw5
                    clear hw5
                    go_wp2
                    refine ⟨⟨j + 1, by omega, by simp, HW5.out⟩, ?_⟩
                    show i + 1 - ((j : Int) + 1).toNat < i + 1 - ((j : Int)).toNat
                    omega
                  · have hq2 : (hA1 == 2) = false := by simpa using h2
                    clear hq h2
                    iterate 2 (refine still_step rfl (fun K hK => ?_); go_simp; refine hK _ ?_; clear hK K)
                    refine still_step rfl (fun K hK => ?_)
                    have hK' := fun (a : Act) h1 h4 => hK a (still_pass1 (a := a) 26 true 75 (.bool false) [27, 28, 29, 30, 31, 32, 33, 34, 35, 36, 37, 38, 39] [40] [76, 77, 78, 79, 80, 81, 82, 83, 84, 85, 86, 87, 88] rfl rfl (fun h => by cases h) (by kernel_rfl) (by kernel_rfl) h1 h4)
                    clear hK
                    go_simp
                    refine hK' _ (by kernel_rfl) ?_
                    clear hK' K
                    intro K hK
                    simp only [undefL]
                    go_simp
                    refine hK _ ?_
                    clear hK K
                    iterate 1 (refine still_step rfl (fun K hK => ?_); go_simp; refine hK _ ?_; clear hK K)
                    refine still_nil ?_
                    clear hX hne d0 d1 d2
                    intro w5 hw5
                    have HW5 := Hid.mk' hw5
                    clear hw5
                    go_wp2
                    refine ⟨⟨j + 1, by omega, by simp, HW5.out⟩, ?_⟩
                    show i + 1 - ((j : Int) + 1).toNat < i + 1 - ((j : Int)).toNat
                    omega
              · go_wp2
                refine ⟨⟨k + 1, by omega, by simp, HG4.out⟩, ?_⟩
                show i + 1 - ((k : Int) + 1).toNat < i + 1 - ((k : Int)).toNat
                omega
          · have HLI := Hid.mk' (H4.out.then HG4.out)
            go_wp2
            refine ⟨⟨i + 1, by have := HLT.out; omega, by have := HLT.out; omega, by simp, s4, HLI.out, HS4.out⟩, ?_⟩
            show l - ((i : Int) + 1).toNat < l - ((i : Int)).toNat
            have := HLT.out
            omega
    · have HAW := Hid.mk' (awake_any wr)
      have HG := Hid.mk' hL.grow
      clear hL hs
      rcases (by omega : ¬ (i : Int) < (l : Int) ∨ ((i : Int) < (l : Int) ∧ ¬ (i : Int) < 80)) with h1 | ⟨h1, h2⟩
      all_goals
        clear hlt
        go_wp2_with fail
        refine Calls.mono HAW.out ?_
        rintro e w7 ⟨rfl, h7⟩
        go_wp2
        go_ret
        exact ⟨rfl, (HG.out.trans h7).below (Nat.le_refl _) (fun _ _ h => h)⟩
set_option maxRecDepth 100000 in
theorem latchAlone_lifted (os : Os) (started : os.Started) (H : Type) (enc : TypeId × Value → H) :
    ReturnsInHanded {} Try.checked os 4 .any (Rows.latchAloneSpec.pre6 enc Try.prog Try.f4 Rows.latchAloneRow.domain false) (Rows.latchAloneSpec.post enc Try.prog Try.f4 false true false false) := by
  refine returnsInHanded_of_change_sized (C := Try.checked) (by kernel_rfl) started (by kernel_rfl) Try.func4
    (ChangeSpec.witness6 (enc := enc) (C := Try.checked) false ⟨#[], #[.slice none 0 0], []⟩ 8 (by kernel_rfl) (by kernel_rfl) (by kernel_rfl) (by kernel_rfl)) ?_
  intro W base args ds gs before hval0 hW hcnd hsz0 _
  have hsz : (DataW.weightsEach Try.prog (Try.f4.params.toList ++ Rows.latchAloneSpec.plain.varTypes Try.prog) (ds ++ gs)).all (· ≤ reachBytes) = true := hsz0
  clear hsz0
  have hval : ∀ (j : Nat) t v, Try.f4.params[j]? = some t → args[j]? = some v → Value.okWide Try.prog W .any base t v := hval0
  have hW' := hW
  obtain ⟨p, q, hA0, hV, rfl, hfz, hnd⟩ := hW
  have hA : DataW.TrodAll enc Try.prog W 0 (fun _ => true) true Try.f4.params.toList args.toList ds p := hA0
  rw [Try.params4] at hA hval hsz
  obtain ⟨v0, vs0, d0, ds0, p0, q0, hargs, rfl, rfl, h0, r0⟩ := trodAll_cons hA
  obtain ⟨rfl, rfl, rfl⟩ := trodAll_nil r0
  obtain rfl : args = #[v0] := by cases args; simp_all
  obtain ⟨rfl, rfl⟩ := trodVars_none hV
  have lt0 : ∀ x ∈ p0, x.block < W.heap.size := by obtain ⟨m, hm⟩ := h0; exact DataW.trod_lt m _ _ _ hm
  obtain ⟨n0, z0, w0⟩ := view_lacts (hval 0 22 v0 rfl rfl) h0 lt0 hsz (j := 0) rfl rfl
  clear hA0 hval0
  refine (latchAlone_walk v0 n0 z0 W w0).mono fun e W' ⟨he, bel⟩ => ?_
  subst he
  exact ⟨_, rfl, _, _, _, [], _, [], hW', trodAll_mk1 (shut_bool Try.underlying4 _), (trodAll_cons_mk (Below.trod (by kernel_rfl) (by kernel_rfl) (of_decide_eq_true (by kernel_rfl)) h0 bel lt0) trodAll_mk0), rfl, bel.frame _, fun h => by cases h⟩

theorem latchAlone_holds : Rows.LatchAloneSaid :=
  OpenClaim.holds_of_wide 4 Try.f4 rfl rfl rfl rfl rfl rfl rfl ⟨rfl, rfl, rfl, rfl, rfl⟩ rfl rfl rfl rfl rfl (by kernel_rfl) Try.func4 (by kernel_rfl)
    (of_decide_eq_true (by kernel_rfl)) (by unfold Func.isWrapper; first | (rw [if_pos (by decide +kernel)]; kernel_rfl) | (rw [if_neg (by decide +kernel)]; exact ⟨rfl, rfl⟩))
    (fun os started H enc _ => latchAlone_lifted os started H enc)
#print axioms latchAlone_holds
end Go.Proofs.Ytgldkckhliklhaa
