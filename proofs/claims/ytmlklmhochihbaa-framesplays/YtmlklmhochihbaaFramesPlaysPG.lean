/- For any number and any acts: whatever is done to frames, each call is answered as the document says, and the victim is its. No condition. -/
import Derived.Test.YtmlklmhochihbaaAllE
namespace Go.Proofs.Ytmlklmhochihbaa
open Go.ChangeShapes Go.WideShapes Go.ChangeAt Go.RowKit

theorem fdo_any {Q : Nat → Prop} {wQ w0 w : World} {gt gx : Nat} {s : St} {A : FA} {n : Nat} (h : Tx Q wQ Q w0 w gt gx s s) (hok : A.ok w0) (hsm : A.bs.length ≤ 1000) (hb : s.now ≤ n ∧ s.pins.length ≤ n) (hn : n ≤ 50000) :
    Calls Try.prog 11 #[.agg #[ptr gt, ptr gx], .agg (fac A).toArray] w (FDoX Q wQ w0 gt gx n) := by
  have h0 := Int.emod_nonneg A.kind (b := 9) (by decide)
  have h1 := Int.emod_lt_of_pos A.kind (b := 9) (by decide)
  rcases (by omega : A.kind % 9 = 0 ∨ A.kind % 9 = 1 ∨ A.kind % 9 = 2 ∨ A.kind % 9 = 3 ∨ A.kind % 9 = 4 ∨ A.kind % 9 = 5 ∨ A.kind % 9 = 6 ∨ A.kind % 9 = 7 ∨ A.kind % 9 = 8) with e | e | e | e | e | e | e | e | e
  · exact fdo_0 h hok hsm hb hn e
  · exact fdo_1 h hok hsm hb hn e
  · exact fdo_2 h hok hsm hb hn e
  · exact fdo_3 h hok hsm hb hn e
  · exact fdo_4 h hok hsm hb hn e
  · exact fdo_5 h hok hsm hb hn e
  · exact fdo_6 h hok hsm hb hn e
  · exact fdo_7 h hok hsm hb hn e
  · exact fdo_8 h hok hsm hb hn e
theorem Fl.base {F : Nat → Prop} {w wa w1 : World} {gt : Nat} {s : St} (h : Fl (fun _ => False) wa w1 gt s) (k : Grow w wa) (hF : ∀ b, F b → b < wa.heap.size) : Fl F w w1 gt s := by
  obtain ⟨o, h1, h2⟩ := h.ex
  refine ⟨⟨o, h1, fun b hb => ⟨Nat.le_trans k.size (h2 b hb).1, fun e => ?_⟩⟩, k.trans h.grow, fun b hb => Nat.lt_of_lt_of_le (hF b hb) h.grow.size⟩
  have := hF b e
  have := (h2 b hb).1
  omega
theorem Tx.pin {w wQ w0 : World} {G : Nat → Prop} {gt gx : Nat} {s x : St} (h : Tx (fun _ => False) wQ G w0 w gt gx s x) : Tx G w G w0 w gt gx s x := ⟨fun _ h => h, fun _ _ => rfl, h.ex, h.gw⟩
theorem zPairF (w : World) : (zeroValue 28).run Try.prog w = .ok (.agg #[.pointer none, .pointer none]) w := by kernel_rfl
theorem iPairF : (Try.prog.info? 28).map (·.size) = some 2 := by kernel_rfl
theorem iActF : (Try.prog.info? 34).map (·.size) = some 6 := by kernel_rfl
theorem builtPairF (p q : Option Addr) (w : World) : (Instr.build 28 #[(0, .pointer p), (1, .pointer q)]).run Try.prog w = .ok (.agg #[.pointer p, .pointer q]) w := run_build w _ _ _ (by kernel_rfl)
theorem onePair (gt gx : Nat) : ∀ u ∈ [ptr gt, ptr gx], u.oneCell' = true := by
  intro u hu
  rcases List.mem_cons.1 hu with rfl | hu
  · rfl
  · rw [show u = ptr gx by simpa using hu]; rfl
/-- What begun leaves. -/
def BegF (w : World) (n : Nat) (e : Ending) (w' : World) : Prop := ∃ gt gx, e = .returned (.agg #[ptr gt, ptr gx]) ∧ Tx (fun _ => False) w (fun _ => False) w w' gt gx (St.new n) (St.new n)
set_option maxRecDepth 100000 in
set_option maxHeartbeats 2000000 in
theorem fbegun_any (x : Int) (w : World) : ∃ n, 1 ≤ n ∧ n ≤ 40 ∧ Calls Try.prog 10 #[.int .i64 x] w (BegF w n) := by
  obtain ⟨p, hp⟩ : ∃ p : Nat, x % 40 = (p : Int) := ⟨(x % 40).toNat, by have := Int.emod_nonneg x (b := 40) (by decide); omega⟩
  have hp9 : p < 40 := by have := Int.emod_lt_of_pos x (b := 40) (by decide); omega
  obtain ⟨n, hn⟩ : ∃ n : Nat, n = p + 1 := ⟨_, rfl⟩
  refine ⟨n, by omega, by omega, ?_⟩
  have e1 : (1 : Int) + (p : Int) = (n : Int) := by omega
  have hni : (n : Int) ≤ 40 := by omega
  have HN : Hid (1 ≤ n ∧ n ≤ 1024) := by show _ ∧ _; omega
  obtain ⟨wa, hwa⟩ : ∃ wa, wa = w.alloc (.cells #[.pointer none, .pointer none] 28) := ⟨_, rfl⟩
  have HA : Hid (Grow w wa) := by rw [hwa]; exact (But.refl _ w).alloc _
  obtain ⟨g2, hg2⟩ : ∃ g2, g2 = w.heap.size := ⟨_, rfl⟩
  have HB : Hid (Blk wa g2 28 [.pointer none, .pointer none]) := by rw [hwa]; exact Blk.new (L := [.pointer none, .pointer none]) hg2.symm
  have hpk := pick_any x 40 wa (by decide) (by decide)
  rw [hp] at hpk
  have HPK := Hid.mk' hpk
  have HG := Hid.mk' hg2
  have HWA := Hid.mk' hwa
  have hz := zPairF
  clear hwa hg2 hp hp9 hn hpk
  go_enter Try.func10, Try.ntmps10
  go_wp2_with fail
  rw [← HG.out, ← HWA.out]
  refine Calls.mono HPK.out ?_
  rintro e w' ⟨rfl, hw⟩
  have h2 := hw.symm
  subst h2
  clear hw HPK
  go_wp2_with fail
  refine Calls.mono (fl_new wa n HN.out.1 HN.out.2) ?_
  rintro e w1 ⟨gt, rfl, h1⟩
  have HF1 := Hid.mk' h1
  clear h1
  go_wp2_with fail
  refine Calls.mono (rxnew_any w1 n HN.out.1 HN.out.2) ?_
  rintro e w2 ⟨rfl, hr, g12⟩
  obtain ⟨gx, hgx⟩ : ∃ gx, gx = w1.heap.size := ⟨_, rfl⟩
  rw [← hgx] at hr ⊢
  have hb2 : Blk w2 g2 28 [.pointer none, .pointer none] := HB.out.but (HF1.out.grow.trans g12) (fun h => h)
  have hgl : g2 < wa.heap.size := HB.out.lt
  have hlt := hr.top
  have hsz1 := HF1.out.grow.size
  have hf2 : Fl (fun b => roN gx b ≠ .none ∨ b = g2) w w2 gt (St.new n) := (HF1.out.base (F := fun b => b = g2) HA.out (fun b e => by rw [e]; exact hgl)).add g12 (fun b e => by
    rcases e with e | e
    · right
      have : b = gx := by
        unfold roN at e
        by_cases e2 : b = gx
        · exact e2
        · rw [if_neg e2] at e; exact absurd rfl e
      have h9 := hlt.lt e
      omega
    · exact .inl e)
  have htx : Tx (fun _ => False) w (fun b => b = g2) w w2 gt gx (St.new n) (St.new n) := ⟨fun _ h => h.elim, fun _ h => h.elim, ⟨_, hr, hf2, fun b hb => by
    have : b = gx := by
      unfold roN at hb
      by_cases e2 : b = gx
      · exact e2
      · rw [if_neg e2] at hb; exact absurd rfl hb
    have := HA.out.size
    omega⟩, fun b hb => by have := HG.out; omega⟩
  have HTX := Hid.mk' htx
  have HB2 := Hid.mk' hb2
  clear hr g12 hb2 hgl hlt hsz1 hf2 htx HF1 HB hgx
  go_wp2_with (first
    | (refine wpList_build_run rfl _ [_, _] rfl [(0, ptr gt), (1, ptr gx)] rfl _ (builtPairF _ _ _) ?_)
    | (refine wpList_store_at rfl _ _ _ rfl g2 0 [ptr gt, ptr gx] rfl rfl 28 [] [.pointer none, .pointer none] [] (by simpa using HB2.out) rfl rfl iPairF (onePair gt gx) ?_; intro w3 hb3 hbut3; rw [List.nil_append, List.append_nil] at hb3)
    | fail)
  exact bodyPost_ret (results_cell_row rfl _ _ g2 _ _ _ _ rfl hb3 Try.underlying28 rfl iPairF) rfl ⟨gt, gx, rfl, (HTX.out.turn hbut3 (fun b e => ⟨e, fun h => h⟩)).less (fun _ h => h.elim) (fun _ h => h.elim)⟩
set_option maxRecDepth 100000 in
set_option maxHeartbeats 8000000 in
theorem framesPlays_walk (x : Int) (v1 : Value) (l : Nat) (A : Nat → FA) (w : World) (_ : (Lit.int .i64 x).wf = true) (hv : FActs w w v1 l A) :
    Calls Try.prog 3 #[.int .i64 x, v1] w fun e w' => e = .returned (.bool true) ∧ Below w.heap.size w w' := by
  have HV := Hid.mk' hv
  have HGR := Hid.mk' (fgreat_any hv)
  have hll : (l : Int) ≤ 140737488351232 := by have := hv.1; omega
  obtain ⟨ao, cap, rfl⟩ := hv.len
  obtain ⟨n, -, -, hbeg⟩ := fbegun_any x w
  have HBG := Hid.mk' hbeg
  have hz := zPairF
  clear hv hbeg
  go_enter Try.func3, Try.ntmps3
  go_wp2_with fail
  refine Calls.mono HGR.out ?_
  rintro e w' ⟨hw, rfl | ⟨rfl, hsm⟩⟩
  · have h2 := hw.symm
    subst h2
    clear hw
    go_wp2_with fail
    refine Calls.mono (awake_any _) ?_
    rintro e wa ⟨rfl, ga⟩
    have HGA := Hid.mk' ga
    clear ga
    go_wp2
    go_ret
    exact ⟨rfl, HGA.out.below (Nat.le_refl _) (fun _ _ h => h)⟩
  have h2 := hw.symm
  subst h2
  have HSM := Hid.mk' hsm
  clear hw hsm HGR
  go_wp2_with fail
  refine Calls.mono HBG.out ?_
  rintro e w1 ⟨gt, gx, rfl, h1⟩
  obtain ⟨g5, hg5⟩ : ∃ g5, g5 = w1.heap.size := ⟨_, rfl⟩
  have HG5 := Hid.mk' hg5
  have HAL : Hid (Grow w1 (w1.alloc (.cells #[.pointer none, .pointer none] 28))) := (But.refl _ w1).alloc _
  have HBZ : Hid (Blk (w1.alloc (.cells #[.pointer none, .pointer none] 28)) g5 28 [.pointer none, .pointer none]) := Blk.new (L := [.pointer none, .pointer none]) hg5.symm
  have HT1 : Hid (Tx (fun _ => False) w (fun b => b = g5) w (w1.alloc (.cells #[.pointer none, .pointer none] 28)) gt gx (St.new n) (St.new n)) := h1.add HAL.out (fun _ h => h.elim) (fun b e => .inr ⟨by omega, by rw [e]; exact HBZ.out.lt⟩)
  clear h1 hg5 HBG
  go_upto_region 4 with (first
    | (refine wpList_store_at rfl _ _ _ rfl g5 0 [ptr gt, ptr gx] (by rw [HG5.out]; rfl) rfl 28 [] [.pointer none, .pointer none] [] (by simpa using HBZ.out) rfl rfl iPairF (onePair gt gx) ?_; intro w3 hb3 hbut3; rw [List.nil_append, List.append_nil] at hb3)
    | fail)
  have HT3 := Hid.mk' (HT1.out.turn hbut3 (fun b e => ⟨e, fun h => h⟩)).pin
  have HB5 : Hid (∀ wz s, Tx (fun b => b = g5) w3 (fun b => b = g5) w wz gt gx s s → Blk wz g5 28 [ptr gt, ptr gx]) := fun wz s h => (h.kp g5 rfl).trans hb3
  rw [← HG5.out]
  clear hb3 hbut3 HT1 HAL HBZ
  go_wp2
  go_loopw [6] (fun iv wq => ∃ (i : Nat) (s : St), i ≤ l ∧ i ≤ 120 ∧ iv = .int .i64 i ∧ Tx (fun b => b = g5) w3 (fun b => b = g5) w wq gt gx s s ∧ s.now ≤ i ∧ s.pins.length ≤ i) (fun iv _ => l - (intOf iv).toNat)
  case atStart => exact ⟨0, _, Nat.zero_le _, Nat.zero_le _, rfl, HT3.out, Nat.le_refl _, Nat.le_refl _⟩
  case round =>
    clear HT3
    obtain ⟨i, s, hil, hi0, rfl, htx, hnow, hpin⟩ := hrel
    by_cases hlt : i < l ∧ i < 120
    · have hlti : (i : Int) < (l : Int) := by omega
      have hlt2 : (i : Int) < 120 := by omega
      obtain ⟨b, off, cap', e1, hbl, hA⟩ := HV.out.at hlt.1
      simp only [Value.slice.injEq] at e1
      obtain ⟨rfl, -, rfl⟩ := e1
      obtain ⟨hok, hcell⟩ := hA i hlt.1
      have HOK := Hid.mk' hok
      have HLN := Hid.mk' (HSM.out i hlt.1 (by omega))
      have HCW : Hid (∀ wz, Grow w wz → ∀ c u, (fac (A i))[c]? = some u → wz.cell? ((⟨b, off + i * 6, none⟩ : Addr).add c) = some u) := fun wz k c u hc => by
        rw [addr_add]; exact grow_cell k (hcell c u hc)
      have HTX := Hid.mk' htx
      have HLT := Hid.mk' hlt
      have HNP : Hid (s.now ≤ i ∧ s.pins.length ≤ i) := ⟨hnow, hpin⟩
      clear hA hok hcell hbl hlt htx hnow hpin
      go_upto_region 7 with fail
      refine region_chain [([0, 1, 2, 3, 4], 5), ([6, 7, 8], 9)] [10, 11] (fun wz => ∃ s, Tx (fun b => b = g5) w3 (fun b => b = g5) w wz gt gx s s) (fun wz => Tx (fun b => b = g5) w3 (fun b => b = g5) w wz gt gx s s) (by kernel_rfl) (by kernel_rfl) (fun _ _ h k => h.then k) (fun _ h => ⟨_, h⟩) (HTX.out.then ((But.refl _ wr).drew)) ?_
      intro ι hne X hX
      refine still_val rfl (.agg #[ptr gt, ptr gx]) rfl (fun z => exec_ldF (cs := [ptr gt, ptr gx]) Try.underlying28 rfl iPairF (by obtain ⟨s', h⟩ := hX z; exact (HB5.out _ s' h).cells0) rfl rfl) ?_
      intro K hK; go_simp; refine hK _ ?_; clear hK K
      iterate 3 (refine still_step rfl (fun K hK => ?_); go_simp; refine hK _ ?_; clear hK K)
      refine still_val rfl (.agg (fac (A i)).toArray) rfl (fun z => exec_ldF (cs := fac (A i)) Try.underlying34 rfl iActF (by obtain ⟨s', h⟩ := hX z; exact HCW.out _ h.wgrow) rfl rfl) ?_
      intro K hK; go_simp; refine hK _ ?_; clear hK K
      refine still_nil ?_
      clear hX hne X ι
      refine turn_call rfl rfl (fun v wz => v = .bool true ∧ ∃ s, Tx (fun b => b = g5) w3 (fun b => b = g5) w wz gt gx s s ∧ s.now ≤ i + 1 ∧ s.pins.length ≤ i + 1) (fun _ wz => ∃ s, Tx (fun b => b = g5) w3 (fun b => b = g5) w wz gt gx s s) (fun _ _ _ h k => by
        obtain ⟨h1, s', h2, h3⟩ := h
        exact ⟨h1, s', h2.then k, h3⟩) (fun _ _ h => by obtain ⟨-, s', h2, -⟩ := h; exact ⟨s', h2⟩) (.inr (fun _ _ h => h)) 11 #[.agg #[ptr gt, ptr gx], .agg (fac (A i)).toArray] (fun _ => by kernel_rfl) ?_ ?_
      · intro wz hz'
        refine (fdo_any hz' HOK.out HLN.out HNP.out (by have := HLT.out; omega)).mono ?_
        rintro e w' ⟨rfl, s', k1, k2⟩
        exact ⟨_, rfl, rfl, s', k1, k2⟩
      rintro v ⟨wq, rfl, -⟩ Y hY
      go_simp
      refine hY _ ?_
      clear hY Y
      intro ι hne X hX
      iterate 2 (refine still_step rfl (fun K hK => ?_); go_simp; refine hK _ ?_; clear hK K)
      refine still_val rfl (.agg #[ptr gt, ptr gx]) (by kernel_rfl) (fun z => exec_ldF (cs := [ptr gt, ptr gx]) Try.underlying28 rfl iPairF (by obtain ⟨s', h⟩ := hX z; exact (HB5.out _ s' h).cells0) rfl rfl) ?_
      intro K hK; go_simp; refine hK _ ?_; clear hK K
      refine still_nil ?_
      clear hX hne X ι
      refine turn_call rfl (by kernel_rfl) (fun v wz => v = .bool true ∧ ∃ s, Tx (fun b => b = g5) w3 (fun b => b = g5) w wz gt gx s s ∧ s.now ≤ i + 1 ∧ s.pins.length ≤ i + 1) (fun _ wz => ∃ s, Tx (fun b => b = g5) w3 (fun b => b = g5) w wz gt gx s s) (fun _ _ _ h k => by
        obtain ⟨h1, s', h2, h3⟩ := h
        exact ⟨h1, s', h2.then k, h3⟩) (fun _ _ h => by obtain ⟨-, s', h2, -⟩ := h; exact ⟨s', h2⟩) (.inr (fun _ _ h => h)) 12 #[.agg #[ptr gt, ptr gx]] (fun _ => by kernel_rfl) ?_ ?_
      · rintro wz ⟨-, s', k1, k2⟩
        refine (falike_any k1).mono ?_
        rintro e w' ⟨rfl, k3⟩
        exact ⟨_, rfl, rfl, s', k3, k2⟩
      rintro v ⟨wq, rfl, -⟩ Y hY
      go_simp
      refine hY _ ?_
      clear hY Y
      intro ι hne X hX
      iterate 2 (refine still_step rfl (fun K hK => ?_); go_simp; refine hK _ ?_; clear hK K)
      refine still_nil ?_
      clear hX hne X ι
      rintro w6 ⟨-, s', k1, k2⟩
      have HT6 := Hid.mk' k1
      have HK6 := Hid.mk' k2
      have hlt9 := HLT.out
      have hi1 : i + 1 ≤ l := by omega
      have hi2 : i + 1 ≤ 120 := by omega
      clear k1 k2 hlt9
      go_wp2
      exact ⟨⟨i + 1, s', hi1, hi2, by go_num, HT6.out, HK6.out⟩, by simp [intOf]; omega⟩
    · have HWG := Hid.mk' htx.wgrow
      clear htx hnow hpin
      rcases (by omega : i < l ∧ ¬ i < 120 ∨ ¬ i < l) with ⟨h1, h2⟩ | h1
      · have hlti : (i : Int) < (l : Int) := by omega
        have hlt2 : ¬ ((i : Int) < 120) := by omega
        go_wp2_with fail
        refine Calls.mono (awake_any _) ?_
        rintro e wa ⟨rfl, ga'⟩
        have HGA' := Hid.mk' (HWG.out.trans ga')
        clear ga'
        go_wp2
        go_ret
        exact ⟨rfl, HGA'.out.below (Nat.le_refl _) (fun _ _ h => h)⟩
      · have hlti : ¬ ((i : Int) < (l : Int)) := by omega
        go_wp2_with fail
        refine Calls.mono (awake_any _) ?_
        rintro e wa ⟨rfl, ga'⟩
        have HGA' := Hid.mk' (HWG.out.trans ga')
        clear ga'
        go_wp2
        go_ret
        exact ⟨rfl, HGA'.out.below (Nat.le_refl _) (fun _ _ h => h)⟩

set_option maxRecDepth 100000 in
theorem framesPlays_lifted (os : Os) (started : os.Started) (H : Type) (enc : TypeId × Value → H) :
    ReturnsInHanded {} Try.checked os 3 .any (Rows.framesPlaysSpec.pre6 enc Try.prog Try.f3 Rows.framesPlaysRow.domain false) (Rows.framesPlaysSpec.post enc Try.prog Try.f3 false true false false) := by
  refine returnsInHanded_of_change_sized (C := Try.checked) (by kernel_rfl) started (by kernel_rfl) Try.func3
    (ChangeSpec.witness6 (enc := enc) (C := Try.checked) false ⟨#[], #[.int .i64 0, .slice none 0 0], []⟩ 8 (by kernel_rfl) (by kernel_rfl) (by kernel_rfl) (by kernel_rfl)) ?_
  intro W base args ds gs before hval0 hW hcnd hsz0 _
  have hsz : (DataW.weightsEach Try.prog (Try.f3.params.toList ++ Rows.framesPlaysSpec.plain.varTypes Try.prog) (ds ++ gs)).all (· ≤ reachBytes) = true := hsz0
  clear hsz0
  have hval : ∀ (j : Nat) t v, Try.f3.params[j]? = some t → args[j]? = some v → Value.okWide Try.prog W .any base t v := hval0
  have hW' := hW
  obtain ⟨p, q, hA0, hV, rfl, hfz, hnd⟩ := hW
  have hA : DataW.TrodAll enc Try.prog W 0 (fun _ => true) true Try.f3.params.toList args.toList ds p := hA0
  rw [Try.params3] at hA hval hsz
  obtain ⟨v0, vs0, d0, ds0, p0, q0, hargs, rfl, rfl, h0, r0⟩ := trodAll_cons hA
  obtain ⟨v1, vs1, d1, ds1, p1, q1, rfl, rfl, rfl, h1, r1⟩ := trodAll_cons r0
  obtain ⟨rfl, rfl, rfl⟩ := trodAll_nil r1
  obtain rfl : args = #[v0, v1] := by cases args; simp_all
  obtain ⟨rfl, rfl⟩ := trodVars_none hV
  obtain ⟨a0, rfl, rfl, rfl, w0⟩ := open_int Try.underlying3 (hval 0 3 v0 rfl rfl) h0
  have lt1 : ∀ x ∈ p1, x.block < W.heap.size := by obtain ⟨m, hm⟩ := h1; exact DataW.trod_lt m _ _ _ hm
  obtain ⟨n1, z1, w1⟩ := view_facts (hval 1 22 v1 rfl rfl) h1 lt1 hsz (j := 1) rfl rfl
  clear hA0 hval0
  refine (framesPlays_walk a0 v1 n1 z1 W w0 w1).mono fun e W' ⟨he, bel⟩ => ?_
  subst he
  exact ⟨_, rfl, _, _, _, [], _, [], hW', trodAll_mk1 (shut_bool Try.underlying4 _), (trodAll_cons_mk (shut_int Try.underlying3 w0) (trodAll_cons_mk (Below.trod (by kernel_rfl) (by kernel_rfl) (of_decide_eq_true (by kernel_rfl)) h1 bel lt1) trodAll_mk0)), rfl, bel.frame _, fun h => by cases h⟩

theorem framesPlays_holds : Rows.FramesPlaysSaid :=
  OpenClaim.holds_of_wide 3 Try.f3 rfl rfl rfl rfl rfl rfl rfl ⟨rfl, rfl, rfl, rfl, rfl⟩ rfl rfl rfl rfl rfl (by kernel_rfl) Try.func3 (by kernel_rfl)
    (of_decide_eq_true (by kernel_rfl)) (by unfold Func.isWrapper; first | (rw [if_pos (by decide +kernel)]; kernel_rfl) | (rw [if_neg (by decide +kernel)]; exact ⟨rfl, rfl⟩))
    (fun os started H enc _ => framesPlays_lifted os started H enc)
#print axioms framesPlays_holds
end Go.Proofs.Ytmlklmhochihbaa
