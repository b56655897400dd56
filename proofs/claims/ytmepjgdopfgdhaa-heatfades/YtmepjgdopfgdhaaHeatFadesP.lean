/- For any half, any two numbers and any count: while others alone are touched a heat is halved once each half touches, and which of two keys is colder doesn't turn about. No condition. -/
import Derived.Test.YtmepjgdopfgdhaaHtFadeMath
import Derived.ProofKit
import Derived.OpenShut
import Derived.ChangeOld
import Derived.Below
namespace Go.Proofs.Ytmepjgdopfgdhaa
open Go.ChangeShapes Go.WideShapes Go.ChangeAt Go.RowKit

theorem two_told (half a b : Nat) : ttouch half (0 + 1) (ttouch half 0 tnone 1 a) 2 b 1 = some (radd 0 a, 1) ∧ ttouch half (0 + 1) (ttouch half 0 tnone 1 a) 2 b 2 = some (radd 0 b, 2) := ⟨rfl, rfl⟩
/-- Two keys' heats, told at the times 1 and 2. -/
structure Fa (w wr : World) (gh gm half now a b : Nat) : Prop where
  ex : ∃ T, HtM wr gh gm half now T ∧ T 1 = some (a, 1) ∧ T 2 = some (b, 2)
  grow : Grow w wr
theorem Fa.then {w wr w' : World} {gh gm half now a b : Nat} (h : Fa w wr gh gm half now a b) (k : Grow wr w') : Fa w w' gh gm half now a b := by
  obtain ⟨T, h1, h2⟩ := h.ex
  exact ⟨⟨T, h1.grow k, h2⟩, h.grow.trans k⟩
theorem fa_one {w wr : World} {gh gm half now a b : Nat} (h : Fa w wr gh gm half now a b) : Calls Try.prog 16 #[.pointer (some ⟨gh, 0, none⟩), .int .i64 1] wr fun e w' => e = .returned (.float .f64 (rt (fd a ((now - 1) / half)))) ∧ Grow wr w' := by
  obtain ⟨T, h1, h2, h3⟩ := h.ex
  have := of_any h1 (K := 1) (by unfold i64; omega)
  unfold hof at this
  rw [h2] at this
  exact this
theorem fa_two {w wr : World} {gh gm half now a b : Nat} (h : Fa w wr gh gm half now a b) : Calls Try.prog 16 #[.pointer (some ⟨gh, 0, none⟩), .int .i64 2] wr fun e w' => e = .returned (.float .f64 (rt (fd b ((now - 2) / half)))) ∧ Grow wr w' := by
  obtain ⟨T, h1, h2, h3⟩ := h.ex
  have := of_any h1 (K := 2) (by unfold i64; omega)
  unfold hof at this
  rw [h3] at this
  exact this
theorem fa_touch {w wr : World} {gh gm half now a b : Nat} (h : Fa w wr gh gm half now a b) (hn : now < 1000000) (hg : w.heap.size ≤ gh ∧ w.heap.size ≤ gm) : Calls Try.prog 13 #[.pointer (some ⟨gh, 0, none⟩), .int .i64 3, .float .f64 4607182418800017408] wr fun e w' => e = .returned (.tuple #[]) ∧ Fa w w' gh gm half (now + 1) a b := by
  obtain ⟨T, h1, h2, h3⟩ := h.ex
  refine (touch_any h1 (K := 3) (by unfold i64; omega) hn).mono (fun e w' he => ⟨he.1, ⟨_, he.2.ht, ?_, ?_⟩, h.grow.then he.2.but (fun i hi e => by rcases e with e | e <;> omega)⟩)
  · unfold ttouch tput; rw [if_neg (by decide)]; exact h2
  · unfold ttouch tput; rw [if_neg (by decide)]; exact h3
set_option maxRecDepth 100000 in
set_option maxHeartbeats 4000000 in
theorem heatFades_walk (x : Int) (a b : Nat) (n : Int) (w : World) (_ : (Lit.int .i64 x).wf = true) (_ : (Lit.float .f64 a).wf = true) (_ : (Lit.float .f64 b).wf = true) (_ : (Lit.int .i64 n).wf = true) :
    Calls Try.prog 7 #[.int .i64 x, .float .f64 a, .float .f64 b, .int .i64 n] w fun e w' => e = .returned (.bool true) ∧ Below w.heap.size w w' := by
  have h5 := Int.emod_nonneg x (b := 50) (by decide)
  have h6 := Int.emod_lt_of_pos x (b := 50) (by decide)
  have h7 := Int.emod_nonneg n (b := 300) (by decide)
  have h8 := Int.emod_lt_of_pos n (b := 300) (by decide)
  have HP := Hid.mk' (pick_any x 50 w (by decide) (by decide))
  have HP2 := Hid.mk' (fun w => pick_any n 300 w (by decide) (by decide))
  obtain ⟨half, hhalf⟩ : ∃ half : Nat, half = 1 + (x % 50).toNat := ⟨_, rfl⟩
  have e1 : (1 : Int) + x % 50 = (half : Int) := by omega
  have HNW := Hid.mk' (new_any w half (by omega) (by omega))
  obtain ⟨r, hr⟩ : ∃ r, r = x % 50 := ⟨_, rfl⟩
  rw [← hr] at HP e1
  obtain ⟨m, hm⟩ : ∃ m : Nat, m = (n % 300).toNat := ⟨_, rfl⟩
  have e2 : n % 300 = (m : Int) := by omega
  rw [e2] at HP2
  have hm300 : m < 300 := by omega
  have hwr : IntKind.i64.wrap (1 + r) = (half : Int) := by rw [e1]; exact wrapN half (by omega)
  have hb1 : 1 ≤ half := by omega
  have hb2 : half ≤ 50 := by omega
  have hbi : (half : Int) ≤ 50 := by omega
  obtain ⟨g, hg⟩ : ∃ g, g = w.heap.size := ⟨_, rfl⟩
  rw [← hg] at HNW
  have HGE := Hid.mk' hg
  have HB1 := Hid.mk' hb1
  have HB2 := Hid.mk' hb2
  clear h5 h6 h7 h8 hhalf hr hg hm e2 hb1 hb2
  go_enter Try.func7, Try.ntmps7
  go_wp2_with fail
  refine Calls.mono HP.out ?_
  rintro e w' ⟨rfl, hw⟩
  have h2 := hw.symm
  subst h2
  clear hw HP
  go_wp2_with fail
  refine Calls.mono HNW.out ?_
  rintro e w1 ⟨rfl, h1, k1⟩
  have HT1 := Hid.mk' (touch_any h1 (K := 1) (y := a) (by unfold i64; omega) (by decide))
  have HG1 := Hid.mk' k1
  clear h1 k1 HNW e1 hwr
  go_wp2_with fail
  refine Calls.mono HT1.out ?_
  rintro e w2 ⟨rfl, h2, b2⟩
  have HT2 := Hid.mk' (touch_any h2 (K := 2) (y := b) (by unfold i64; omega) (by decide))
  have HG2 : Hid (Grow w w2) := HG1.out.then b2 (fun i hi e => by have := HGE.out; omega)
  clear h2 b2
  go_wp2_with fail
  refine Calls.mono HT2.out ?_
  rintro e w3 ⟨rfl, h3, b3⟩
  have HG3 : Hid (Grow w w3) := HG2.out.then b3 (fun i hi e => by have := HGE.out; omega)
  obtain ⟨A1, hA1⟩ : ∃ A1, A1 = radd 0 a := ⟨_, rfl⟩
  obtain ⟨B2, hB2⟩ : ∃ B2, B2 = radd 0 b := ⟨_, rfl⟩
  have HF3 : Hid (Fa w w3 (g + 1) g half 2 A1 B2) := by
    rw [hA1, hB2]
    exact ⟨⟨_, h3, (two_told half a b).1, (two_told half a b).2⟩, HG3.out⟩
  have HRA : Hid (Rgt A1 ∧ A1 < 18446744073709551616) := by rw [hA1]; exact ⟨radd_rgt _ _, radd_lt _ _⟩
  have HRB : Hid (Rgt B2 ∧ B2 < 18446744073709551616) := by rw [hB2]; exact ⟨radd_rgt _ _, radd_lt _ _⟩
  clear h3 b3 hA1 hB2 HT1 HT2 HG1 HG2 HG3
  go_wp2_with fail
  refine Calls.mono (HP2.out _) ?_
  rintro e w' ⟨rfl, hw⟩
  have h2 := hw.symm
  subst h2
  clear hw HP2
  have HO1 := Hid.mk' (fa_one HF3.out)
  obtain ⟨o1, ho1⟩ : ∃ o1, o1 = rt (fd A1 ((2 - 1) / half)) := ⟨_, rfl⟩
  rw [← ho1] at HO1
  have HO1L : Hid (o1 < 18446744073709551616) := by rw [ho1]; exact rt_lt (fd_lt _ _ HRA.out.2)
  have HO1E : Hid (1 < half → o1 = A1) := fun hh1 => by
    rw [ho1, show (2 - 1) / half = 0 from Nat.div_eq_of_lt (by omega), fd_zero _ HRA.out.2, rt_rgt HRA.out.1]
  have hB0 : rt (fd B2 ((2 - 2) / half)) = B2 := by
    rw [show (2 - 2) / half = 0 from Nat.zero_div half, fd_zero _ HRB.out.2, rt_rgt HRB.out.1]
  have HB0 := Hid.mk' hB0
  clear ho1 hB0
  go_wp2_with fail
  refine Calls.mono HO1.out ?_
  rintro e w4 ⟨rfl, hg4⟩
  have HF4 := Hid.mk' (HF3.out.then hg4)
  have HO2 := Hid.mk' (fa_two HF4.out)
  rw [HB0.out] at HO2
  clear hg4 HO1 HF3
  go_wp2_with fail
  refine Calls.mono HO2.out ?_
  rintro e w5 ⟨rfl, hg5⟩
  have HF5 := Hid.mk' (HF4.out.then hg5)
  clear hg5 HO2 HF4
  go_wp2_with fail
  refine Calls.mono (refLess_any o1 B2 w5 HO1L.out HRB.out.2) ?_
  rintro e w' ⟨rfl, hw⟩
  have h2 := hw.symm
  subst h2
  clear hw
  obtain ⟨was, hwas⟩ : ∃ was, was = ls o1 B2 := ⟨_, rfl⟩
  rw [← hwas]
  have HWAS : Hid (was = true → 1 < half → ls A1 B2 = true) := fun h1 h2 => by rw [← HO1E.out h2, ← hwas]; exact h1
  have HO3 := Hid.mk' (fa_two HF5.out)
  rw [HB0.out] at HO3
  clear hwas HO1E HO1L
  go_wp2_with fail
  refine Calls.mono HO3.out ?_
  rintro e w6 ⟨rfl, hg6⟩
  have HF6 := Hid.mk' (HF5.out.then hg6)
  clear hg6 HO3 HF5
  go_wp2
  go_loopw [13] (fun iv wr => ∃ i : Nat, 1 ≤ i ∧ i ≤ m + 1 ∧ iv = .int .i64 i ∧ Fa w wr (g + 1) g half (i + 1) A1 B2) (fun iv _ => m + 1 - (intOf iv).toNat)
  case atStart => exact ⟨1, Nat.le_refl _, by omega, rfl, HF6.out⟩
  case round =>
    obtain ⟨i, hi1, him, rfl, hF⟩ := hrel
    have HF := Hid.mk' hF
    clear hF
    by_cases hle : i ≤ m
    · have hlei : (i : Int) ≤ (m : Int) := by omega
      obtain ⟨q, hq⟩ : ∃ q, q = i / half := ⟨_, rfl⟩
      obtain ⟨s, hs⟩ : ∃ s, s = i % half := ⟨_, rfl⟩
      have hqi : q ≤ i := by rw [hq]; exact Nat.div_le_self _ _
      have htd : Int.tdiv (i : Int) (half : Int) = (q : Int) := by rw [hq]; rfl
      have htm : Int.tmod (i : Int) (half : Int) = (s : Int) := by rw [hs]; rfl
      have hs50 : s < 50 := by rw [hs]; have := Nat.mod_lt i (show half > 0 from HB1.out); have := HB2.out; omega
      have hh0 : ¬ half = 0 := by have := HB1.out; omega
      have hhi : ¬ (half : Int) = 0 := by omega
      have hwq : IntKind.i64.wrap (q : Int) = (q : Int) := wrapN q (by omega)
      have hws : IntKind.i64.wrap (s : Int) = (s : Int) := wrapN s (by omega)
      have HFD := Hid.mk' (fun w => refFade_any B2 (q : Int) w HRB.out.2 (by omega) (by omega))
      rw [show (q : Int).toNat = q by omega] at HFD
      have HLF := Hid.mk' (fd_lt B2 q HRB.out.2)
      have HRR := Hid.mk' (fun w => rright_any (fd B2 q) w HLF.out)
      have HLW := Hid.mk' (rt_lt HLF.out)
      have HSA := Hid.mk' (fun w => same_any (rt (fd B2 q)) (rt (fd B2 q)) w HLW.out HLW.out)
      rw [sa_refl] at HSA
      have HQ2 : Hid ((i + 2 - 2) / half = q) := by show _ = _; rw [hq]; rfl
      have HQ1 : Hid (s = 0 → 1 < half → (i + 2 - 1) / half = q) := fun e3 e4 => by
        have h9 : half * (i / half) + i % half = i := Nat.div_add_mod i half
        rw [← hs, e3, Nat.add_zero] at h9
        rw [hq, show i + 2 - 1 = i + 1 by omega]
        conv => lhs; rw [← h9]
        rw [Nat.mul_add_div (by omega), Nat.div_eq_of_lt e4, Nat.add_zero]
      have HLS : Hid (was = true → 1 < half → ∀ w, Calls Try.prog 21 #[.float .f64 (rt (fd B2 q)), .float .f64 (rt (fd A1 q))] w fun e w' => e = .returned (.bool false) ∧ w' = w) := fun e5 e6 w => by
        have h9 := refLess_any (rt (fd B2 q)) (rt (fd A1 q)) w HLW.out (rt_lt (fd_lt A1 q HRA.out.2))
        rw [fade_was HRA.out.1 HRB.out.1 q (HWAS.out e5 e6)] at h9
        exact h9
      obtain ⟨fb, hfb⟩ : ∃ fb, fb = fd B2 q := ⟨_, rfl⟩
      rw [← hfb] at HFD HRR HSA HLS
      obtain ⟨wt, hwt⟩ : ∃ wt, wt = rt fb := ⟨_, rfl⟩
      rw [← hwt] at HRR HSA HLS
      have HTW : Hid (∀ w', Fa w w' (g + 1) g half (i + 2) A1 B2 → Calls Try.prog 16 #[.pointer (some ⟨g + 1, 0, none⟩), .int .i64 2] w' fun e w'' => e = .returned (.float .f64 wt) ∧ Grow w' w'') := fun w' h => by
        have h9 := fa_two h
        rw [HQ2.out, ← hfb, ← hwt] at h9
        exact h9
      have HTO : Hid (s = 0 → 1 < half → ∀ w', Fa w w' (g + 1) g half (i + 2) A1 B2 → Calls Try.prog 16 #[.pointer (some ⟨g + 1, 0, none⟩), .int .i64 1] w' fun e w'' => e = .returned (.float .f64 (rt (fd A1 q))) ∧ Grow w' w'') := fun e3 e4 w' h => by
        have h9 := fa_one h
        rw [HQ1.out e3 e4] at h9
        exact h9
      have HTT := Hid.mk' (fa_touch HF.out (by omega) (by have := HGE.out; omega))
      clear hq hs hfb hwt HLF HLW HQ1 HQ2
      go_wp2_with fail
      refine Calls.mono HTT.out ?_
      rintro e w7 ⟨rfl, hf7⟩
      have HF7 := Hid.mk' hf7
      clear hf7 HTT
      go_wp2_with fail
      refine Calls.mono (HFD.out _) ?_
      rintro e w' ⟨rfl, hw⟩
      have h2 := hw.symm
      subst h2
      clear hw
      go_wp2_with fail
      refine Calls.mono (HRR.out _) ?_
      rintro e w' ⟨rfl, hw⟩
      have h2 := hw.symm
      subst h2
      clear hw
      go_wp2_with fail
      refine Calls.mono (HTW.out _ HF7.out) ?_
      rintro e w8 ⟨rfl, hg8⟩
      have HF8 := Hid.mk' (HF7.out.then hg8)
      clear hg8
      go_wp2_with fail
      refine Calls.mono (HSA.out _) ?_
      rintro e w' ⟨rfl, hw⟩
      have h2 := hw.symm
      subst h2
      clear hw
      by_cases hall : s = 0 ∧ 1 < half ∧ was = true
      · obtain ⟨e3, e4, e5⟩ := hall
        have HT1 := Hid.mk' (HTO.out e3 e4)
        have HL1 := Hid.mk' (HLS.out e5 e4)
        subst e3 e5
        have e4i : (1 : Int) < (half : Int) := by omega
        clear HTO HLS
        obtain ⟨oa, hoa⟩ : ∃ oa, oa = rt (fd A1 q) := ⟨_, rfl⟩
        rw [← hoa] at HT1 HL1
        clear hoa
        go_wp2_with fail
        refine Calls.mono (HTW.out _ HF8.out) ?_
        rintro e w9 ⟨rfl, hg9⟩
        have HF9 := Hid.mk' (HF8.out.then hg9)
        clear hg9
        go_wp2_with fail
        refine Calls.mono (HT1.out _ HF9.out) ?_
        rintro e w10 ⟨rfl, hg10⟩
        have HF10 := Hid.mk' (HF9.out.then hg10)
        clear hg10
        go_wp2_with fail
        refine Calls.mono (HL1.out _) ?_
        rintro e w' ⟨rfl, hw⟩
        have h2 := hw.symm
        subst h2
        clear hw
        go_wp2
        exact ⟨⟨i + 1, by omega, by omega, by go_num, HF10.out⟩, by simp [intOf]; omega⟩
      · by_cases e3 : s = 0
        · subst e3
          by_cases e4 : 1 < half
          · have e4i : (1 : Int) < (half : Int) := by omega
            have e5 : was = false := by
              cases was
              · rfl
              · exact absurd ⟨rfl, e4, rfl⟩ hall
            subst e5
            clear hall HTO HLS
            go_wp2
            exact ⟨⟨i + 1, by omega, by omega, by go_num, HF8.out⟩, by simp [intOf]; omega⟩
          · have e4i : ¬ ((1 : Int) < (half : Int)) := by omega
            clear hall HTO HLS
            go_wp2
            exact ⟨⟨i + 1, by omega, by omega, by go_num, HF8.out⟩, by simp [intOf]; omega⟩
        · have e3i : ((s : Int) == 0) = false := by
            have : ¬ (s : Int) = 0 := by omega
            simpa using this
          have e3j : ¬ (s : Int) = 0 := by omega
          clear hall HTO HLS
          go_wp2
          exact ⟨⟨i + 1, by omega, by omega, by go_num, HF8.out⟩, by simp [intOf]; omega⟩
    · have hlei : ¬ ((i : Int) ≤ (m : Int)) := by omega
      go_wp2_with fail
      refine Calls.mono (awake_any _) ?_
      rintro e w7 ⟨rfl, hg7⟩
      have HG7 := Hid.mk' (HF.out.grow.trans hg7)
      clear hg7
      go_wp2
      go_ret
      exact ⟨rfl, HG7.out.below (Nat.le_refl _) (fun _ _ h => h)⟩

set_option maxRecDepth 100000 in
theorem heatFades_lifted (os : Os) (started : os.Started) (H : Type) (enc : TypeId × Value → H) :
    ReturnsInHanded {} Try.checked os 7 .any (Rows.heatFadesSpec.pre6 enc Try.prog Try.f7 Rows.heatFadesRow.domain false) (Rows.heatFadesSpec.post enc Try.prog Try.f7 false true false false) := by
  refine returnsInHanded_of_change (C := Try.checked) (by kernel_rfl) started (by kernel_rfl) Try.func7
    (ChangeSpec.witness6 (enc := enc) (C := Try.checked) false ⟨#[], #[.int .i64 0, .float .f64 0, .float .f64 0, .int .i64 0], []⟩ 8 (by kernel_rfl) (by kernel_rfl) (by kernel_rfl) (by kernel_rfl)) ?_
  intro W base args ds gs before hval0 hW hcnd _
  have hval : ∀ (j : Nat) t v, Try.f7.params[j]? = some t → args[j]? = some v → Value.okWide Try.prog W .any base t v := hval0
  have hW' := hW
  obtain ⟨p, q, hA0, hV, rfl, hfz, hnd⟩ := hW
  have hA : DataW.TrodAll enc Try.prog W 0 (fun _ => true) true Try.f7.params.toList args.toList ds p := hA0
  rw [Try.params7] at hA hval
  obtain ⟨v0, vs0, d0, ds0, p0, q0, hargs, rfl, rfl, h0, r0⟩ := trodAll_cons hA
  obtain ⟨v1, vs1, d1, ds1, p1, q1, rfl, rfl, rfl, h1, r1⟩ := trodAll_cons r0
  obtain ⟨v2, vs2, d2, ds2, p2, q2, rfl, rfl, rfl, h2, r2⟩ := trodAll_cons r1
  obtain ⟨v3, vs3, d3, ds3, p3, q3, rfl, rfl, rfl, h3, r3⟩ := trodAll_cons r2
  obtain ⟨rfl, rfl, rfl⟩ := trodAll_nil r3
  obtain rfl : args = #[v0, v1, v2, v3] := by cases args; simp_all
  obtain ⟨rfl, rfl⟩ := trodVars_none hV
  obtain ⟨a0, rfl, rfl, rfl, w0⟩ := open_int Try.underlying3 (hval 0 3 v0 rfl rfl) h0
  obtain ⟨a1, rfl, rfl, rfl, w1⟩ := open_float Try.underlying32 (hval 1 32 v1 rfl rfl) h1
  obtain ⟨a2, rfl, rfl, rfl, w2⟩ := open_float Try.underlying32 (hval 2 32 v2 rfl rfl) h2
  obtain ⟨a3, rfl, rfl, rfl, w3⟩ := open_int Try.underlying3 (hval 3 3 v3 rfl rfl) h3
  clear hA0 hval0
  refine (heatFades_walk a0 a1 a2 a3 W w0 w1 w2 w3).mono fun e W' ⟨he, bel⟩ => ?_
  subst he
  exact ⟨_, rfl, _, _, _, [], _, [], hW', trodAll_mk1 (shut_bool Try.underlying4 _), (trodAll_cons_mk (shut_int Try.underlying3 w0) (trodAll_cons_mk (shut_float Try.underlying32 w1) (trodAll_cons_mk (shut_float Try.underlying32 w2) (trodAll_cons_mk (shut_int Try.underlying3 w3) trodAll_mk0)))), rfl, bel.frame _, fun h => by cases h⟩

theorem heatFades_holds : Rows.HeatFadesSaid :=
  OpenClaim.holds_of_wide 7 Try.f7 rfl rfl rfl rfl rfl rfl rfl ⟨rfl, rfl, rfl, rfl, rfl⟩ rfl rfl rfl rfl rfl (by kernel_rfl) Try.func7 (by kernel_rfl)
    (of_decide_eq_true (by kernel_rfl)) (by unfold Func.isWrapper; first | (rw [if_pos (by decide +kernel)]; kernel_rfl) | (rw [if_neg (by decide +kernel)]; exact ⟨rfl, rfl⟩))
    (fun os started H enc _ => heatFades_lifted os started H enc)
#print axioms heatFades_holds
end Go.Proofs.Ytmepjgdopfgdhaa
