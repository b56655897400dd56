/- Any number of tasks share a latch that nobody wants alone; one that wants it alone waits for all of them: for any key and any byte. -/
import Derived.Test.YtgldkckhliklhaaLtAwake
import Derived.ProofKit
import Derived.OpenShut
import Derived.ChangeOld
import Derived.Below
namespace Go.Proofs.Ytgldkckhliklhaa
open Go.ChangeShapes Go.WideShapes Go.ChangeAt Go.RowKit Go.Maps

/-- So many share the key, from this one on. -/
def shH (key : Int) (lo n : Nat) : List Wt := (List.range' lo n).map (fun j => (((j : Nat) : Int), key, false))
theorem shH_mem {key : Int} {lo n : Nat} {x : Wt} : x ∈ shH key lo n ↔ ∃ j, (lo ≤ j ∧ j < lo + n) ∧ x = ((j : Int), key, false) := by
  unfold shH
  rw [List.mem_map]
  constructor
  · rintro ⟨j, hj, rfl⟩
    rw [List.mem_range'_1] at hj
    exact ⟨j, hj, rfl⟩
  · rintro ⟨j, hj, rfl⟩
    exact ⟨j, by rw [List.mem_range'_1]; exact hj, rfl⟩
theorem Ls.eq_of {s : Ls} {H Q : List Wt} (h1 : s.has = H) (h2 : s.q = Q) : s = ⟨H, Q⟩ := by cases s; subst h1 h2; rfl
section
variable {key : Int} {i c : Nat} {a : Bool}
theorem sh_busy : (Ls.mk (shH key 0 i) []).busy ((i : Int), key, a) = false := by
  unfold Ls.busy
  rw [hold_none (fun x hx e => ?_)]
  · rfl
  · obtain ⟨j, hj, rfl⟩ := shH_mem.1 hx
    exact absurd (show (j : Int) = i from e) (by omega)
theorem sh_got : (Ls.mk (shH key 0 i) []).got ((i : Int), key, false) = true := by
  unfold Ls.got
  rw [sh_busy, mayG_iff.2 (fun y hy e => ?_)]
  · rfl
  · obtain ⟨j, hj, rfl⟩ := shH_mem.1 hy
    exact ⟨rfl, rfl⟩
theorem sh_askc : (Ls.mk (shH key 0 i) []).askc ((i : Int), key, a) = 0 := by unfold Ls.askc; rw [sh_busy]; rfl
theorem sh_asked : (Ls.mk (shH key 0 i) []).asked ((i : Int), key, false) = Ls.mk (shH key 0 (i + 1)) [] := by
  unfold Ls.asked Ls.askR
  rw [sh_busy, mayG_iff.2 (fun y hy e => ?_)]
  · show Ls.mk _ _ = _
    congr 1
    unfold shH
    rw [List.range'_1_concat, List.map_append]
    simp
  · obtain ⟨j, hj, rfl⟩ := shH_mem.1 hy
    exact ⟨rfl, rfl⟩
theorem sh_may (hc : 1 ≤ c) : mayG (shH key i c) ((0 : Int), key, true) = false ∧ ∀ t : Int, mayG (shH key i c) (t, key, true) = false := by
  have : ∀ t : Int, mayG (shH key i c) (t, key, true) = false := fun t => by
    cases e : mayG (shH key i c) (t, key, true) with
    | false => rfl
    | true => exact absurd (mayG_iff.1 e ((i : Int), key, false) (shH_mem.2 ⟨i, ⟨Nat.le_refl _, by omega⟩, rfl⟩) rfl).2 (by simp)
  exact ⟨this 0, this⟩
theorem sh_gotA (hc : 1 ≤ c) : (Ls.mk (shH key 0 c) []).got ((c : Int), key, true) = false := by
  unfold Ls.got
  rw [show mayG (Ls.mk (shH key 0 c) []).has ((c : Int), key, true) = false from (sh_may hc).2 c]
  simp
theorem sh_askedA (hc : 1 ≤ c) : (Ls.mk (shH key 0 c) []).asked ((c : Int), key, true) = Ls.mk (shH key 0 c) [((c : Int), key, true)] := by
  unfold Ls.asked Ls.askR
  rw [sh_busy, show mayG (Ls.mk (shH key 0 c) []).has ((c : Int), key, true) = false from (sh_may hc).2 c]
  simp
  rfl
theorem sh_busyA : (Ls.mk (shH key 0 c) [((c : Int), key, true)]).busy ((c : Int), key, a) = true := by
  unfold Ls.busy Ls.wait
  simp
theorem sh_askcA : (Ls.mk (shH key 0 c) [((c : Int), key, true)]).askc ((c : Int), key, a) = 6 := by unfold Ls.askc; rw [sh_busyA]; rfl
theorem sh_askedB : (Ls.mk (shH key 0 c) [((c : Int), key, true)]).asked ((c : Int), key, a) = Ls.mk (shH key 0 c) [((c : Int), key, true)] := by unfold Ls.asked; rw [sh_busyA]; rfl
theorem sh_wo {n : Nat} : wo i (shH key i (n + 1)) = shH key (i + 1) n := by
  unfold wo
  rw [show shH key i (n + 1) = ((i : Int), key, false) :: shH key (i + 1) n from by unfold shH; rw [List.range'_succ]; rfl, List.filter_cons, if_neg (by simp), List.filter_eq_self]
  intro y hy
  obtain ⟨j, hj, rfl⟩ := shH_mem.1 hy
  have : ((j : Int) == (i : Int)) = false := by rw [beq_eq_false_iff_ne]; omega
  show (!((j : Int) == (i : Int))) = true
  rw [this]; rfl
theorem sh_free {s : Ls} {G : List Wt} {n : Nat} (hi : i < c) (h : Fre (Ls.mk (shH key i (n + 1)) [((c : Int), key, true)]) i G s) :
    (1 ≤ n → G = [] ∧ s = Ls.mk (shH key (i + 1) n) [((c : Int), key, true)]) ∧ (n = 0 → G = [((c : Int), key, true)] ∧ s.hold c key = 2) := by
  have hq : wo i [((c : Int), key, true)] = [((c : Int), key, true)] := wo_self (fun y hy => by rw [show y = ((c : Int), key, true) by simpa using hy]; show (c : Int) ≠ i; omega)
  have h1 := fre_one h (k := key) (fun y hy => by rw [show y = ((c : Int), key, true) by simpa using hy])
  have hG : G = if mayG (shH key (i + 1) n) ((c : Int), key, true) then [((c : Int), key, true)] else [] := by
    rw [h1]
    show gr (wo i [((c : Int), key, true)]) (wo i (shH key i (n + 1))) = _
    rw [hq, sh_wo]
    rfl
  refine ⟨fun hn => ?_, fun hn => ?_⟩
  · rw [(sh_may hn).2 c] at hG
    have hG : G = [] := hG
    subst hG
    refine ⟨rfl, Ls.eq_of ?_ ?_⟩
    · rw [h.has]; show wo i (shH key i (n + 1)) ++ [] = _; rw [sh_wo, List.append_nil]
    · rw [h.q, nin_nil]; exact hq
  · subst hn
    have hG : G = [((c : Int), key, true)] := hG
    subst hG
    refine ⟨rfl, ?_⟩
    have h2 : ((c : Int), key, true) ∈ s.has := by rw [h.has]; simp
    exact hold_of h.ok h2
theorem shH_len {lo n : Nat} : (shH key lo n).length = n := by unfold shH; simp
end
/-- In the loop that lets go. -/
def ShF (w wr : World) (gt : Nat) (key : Int) (c i : Nat) : Prop := ∃ s, Ll (fun _ => False) w wr gt s ∧ (i < c → s = Ls.mk (shH key i (c - i)) [((c : Int), key, true)]) ∧ (i = c → s.hold c key = 2)
theorem wf_i64 {z : Int} (h : (Lit.int .i64 z).wf = true) : -9223372036854775808 ≤ z ∧ z ≤ 9223372036854775807 := by
  have h1 : IntKind.i64.min ≤ z ∧ z ≤ IntKind.i64.max := by simpa [Lit.wf, go_sem] using h
  have e1 : IntKind.i64.min = -9223372036854775808 := rfl
  have e2 : IntKind.i64.max = 9223372036854775807 := rfl
  omega
theorem wf_u8 {z : Int} (h : (Lit.int .u8 z).wf = true) : 0 ≤ z ∧ z ≤ 255 := by
  have h1 : IntKind.u8.min ≤ z ∧ z ≤ IntKind.u8.max := by simpa [Lit.wf, go_sem] using h
  have e1 : IntKind.u8.min = 0 := rfl
  have e2 : IntKind.u8.max = 255 := rfl
  omega
set_option maxRecDepth 100000 in
set_option maxHeartbeats 2000000 in
theorem latchShared_walk (key n : Int) (w : World) (hk0 : (Lit.int .i64 key).wf = true) (hn0 : (Lit.int .u8 n).wf = true) : Calls Try.prog 7 #[.int .i64 key, .int .u8 n] w fun e w' => e = .returned (.bool true) ∧ Below w.heap.size w w' := by
  have hk : i64 key := wf_i64 hk0
  have hn : 0 ≤ n ∧ n ≤ 255 := wf_u8 hn0
  obtain ⟨M, hM⟩ : ∃ M, M = 1 + n % 30 := ⟨_, rfl⟩
  have hb : 0 ≤ n % 30 ∧ n % 30 ≤ 29 := by omega
  have HK := Hid.mk' hk
  obtain ⟨c, hc⟩ : ∃ c : Nat, (c : Int) = M := ⟨M.toNat, by omega⟩
  have HC1 : Hid (1 ≤ c) := Hid.mk' (by omega)
  have HC2 : Hid (c ≤ 30) := Hid.mk' (by omega)
  have HC := Hid.mk' hc
  have HN := Hid.mk' (ll_new w)
  have hw1 : IntKind.i64.wrap n = n := wrapI (by omega) (by omega)
  have hM2 : 1 + n % 30 = M := hM.symm
  have hMb : 1 ≤ M ∧ M ≤ 30 := by omega
  obtain ⟨hMl, hMu⟩ := hMb
  obtain ⟨hbl, hbu⟩ := hb
  obtain ⟨hnl, hnu⟩ := hn
  clear hk hM hk0 hn0 hc
  go_enter Try.func7, Try.ntmps7
  go_wp2_with fail
  refine Calls.mono HN.out ?_
  rintro e w1 ⟨gt, rfl, h1⟩
  have H1 := Hid.mk' h1
  clear h1
  go_wp2
  clear hM2 hw1 hbl hbu hnl hnu HN
  go_loopw [7] (fun iv wr => ∃ i : Nat, i ≤ c ∧ iv = .int .i64 i ∧ Ll (fun _ => False) w wr gt (Ls.mk (shH key 0 i) [])) (fun iv _ => c - (intOf iv).toNat)
  case atStart => exact ⟨0, Nat.zero_le _, rfl, H1.out⟩
  case round =>
    clear H1
    obtain ⟨i, hic, rfl, hL⟩ := hrel
    have HL := Hid.mk' hL
    have HI := Hid.mk' hic
    clear hL hic
    by_cases hlt : (i : Int) < M
    · have ha := ll_ask (t := i) (k := key) (a := false) HL.out (by have := HC2.out; have := HI.out; unfold i64; omega) HK.out (by show (shH key 0 i).length + 0 < 10000; rw [shH_len]; have := HC2.out; have := HI.out; omega)
      rw [sh_got, sh_askc, sh_asked] at ha
      have HA := Hid.mk' ha
      have hi1 : (i : Int) ≤ 30 := by omega
      clear ha
      go_wp2_with fail
      refine Calls.mono HA.out ?_
      rintro e w2 ⟨rfl, h2, -⟩
      have H2 := Hid.mk' h2
      clear h2 HA HL
      go_wp2
      refine ⟨⟨i + 1, by have := HC.out; omega, by simp, H2.out⟩, ?_⟩
      show c - ((i : Int) + 1).toNat < c - ((i : Int)).toNat
      have := HC.out
      omega
    · have hie : i = c := by have := HC.out; have := HI.out; omega
      subst hie
      have ha := ll_ask (t := i) (k := key) (a := true) HL.out (by have := HC2.out; unfold i64; omega) HK.out (by show (shH key 0 i).length + 0 < 10000; rw [shH_len]; have := HC2.out; omega)
      rw [sh_gotA HC1.out, sh_askc, sh_askedA HC1.out, HC.out] at ha
      have HA := Hid.mk' ha
      clear ha HI
      go_wp2_with fail
      refine Calls.mono HA.out ?_
      rintro e w2 ⟨rfl, h2, -⟩
      have ha := ll_ask (t := M) (k := key) (a := false) h2 (by unfold i64; omega) HK.out (by show (shH key 0 i).length + 1 < 10000; rw [shH_len]; have := HC2.out; omega)
      rw [← HC.out, sh_askcA, sh_askedB, HC.out] at ha
      have HB := Hid.mk' ha
      clear ha h2 HA HL
      generalize (Ls.mk (shH key 0 i) [((M : Int), key, true)]).got (M, key, false) = gb at HB
      go_wp2_with fail
      refine Calls.mono HB.out ?_
      rintro e w3 ⟨rfl, h3, -⟩
      have H3 := Hid.mk' h3
      clear h3 HB
      go_wp2
      go_loopw [14] (fun iv wr => ∃ j : Nat, j ≤ i ∧ iv = .int .i64 j ∧ ShF w wr gt key i j) (fun iv _ => i - (intOf iv).toNat)
      case atStart =>
        refine ⟨0, Nat.zero_le _, rfl, _, H3.out, fun _ => ?_, fun h => ?_⟩
        · rw [HC.out]; rfl
        · have := HC1.out; omega
      case round =>
        clear H3
        obtain ⟨j, hji, rfl, s, hL, hs1, hs2⟩ := hrel
        have HL := Hid.mk' hL
        have HS1 := Hid.mk' hs1
        have HS2 := Hid.mk' hs2
        have HJ := Hid.mk' hji
        clear hL hs1 hs2 hji
        by_cases hj : (j : Int) < M
        · have hjc : j < i := by have := HC.out; omega
          obtain ⟨m, hm⟩ : ∃ m, i - j = m + 1 := ⟨i - j - 1, by omega⟩
          have hss := HS1.out hjc
          rw [hm] at hss
          subst hss
          have HF := Hid.mk' (ll_free (t := j) HL.out (by have := HC2.out; unfold i64; omega) (by show (shH key j (m + 1)).length + 1 ≤ 10000; rw [shH_len]; have := HC2.out; omega))
          have HM := Hid.mk' hm
          clear hm HS1 HS2 HL
          have hj30 : (j : Int) ≤ 30 := by omega
          go_wp2_with fail
          refine Calls.mono HF.out ?_
          rintro e w4 ⟨v, G, s', rfl, hf, hn, h4, -, -⟩
          obtain ⟨f1, f2⟩ := sh_free hjc hf
          clear hf HF
          have hjm : IntKind.i64.wrap (M - 1) = M - 1 := wrapI (by omega) (by omega)
          by_cases hm0 : 1 ≤ m
          · obtain ⟨rfl, rfl⟩ := f1 hm0
            have hv : ∃ ao cap, v = .slice ao 0 cap := by
              have h5 := hn.len
              rw [srt_len] at h5
              exact h5
            obtain ⟨ao, cap, rfl⟩ := hv
            have H4 := Hid.mk' h4
            have hx1 : (j : Int) < M - 1 := by have := HC.out; have := HM.out; omega
            have hx2 : ((j : Int) == M - 1) = false := by rw [beq_eq_false_iff_ne]; omega
            have HMM := Hid.mk' hm0
            clear f1 f2 hn h4 hm0 hjc
            go_wp2
            refine ⟨⟨j + 1, by have := HM.out; omega, by simp, _, H4.out, fun _ => ?_, fun h => ?_⟩, ?_⟩
            · rw [show i - (j + 1) = m by have := HM.out; omega]
            · have := HM.out; have := HMM.out; omega
            · show i - ((j : Int) + 1).toNat < i - ((j : Int)).toNat
              have := HM.out
              omega
          · have hm00 : m = 0 := by omega
            obtain ⟨rfl, hh⟩ := f2 hm00
            have hx1 : ¬ ((j : Int) < M - 1) := by have := HC.out; have := HM.out; omega
            have hx2 : ((j : Int) == M - 1) = true := by rw [beq_iff_eq]; have := HC.out; have := HM.out; omega
            rw [show srt (List.map (·.1) [((i : Int), key, true)]) = [M] from by rw [← HC.out]; exact srt_one _] at hn
            have HAL : Hid (Grow w4 (w4.alloc (.cells #[.int .i64 M] 3))) := (But.refl _ w4).alloc _
            have hsa := sameints_any (hn.grow HAL.out) (num1 w4 M (by unfold i64; omega))
            rw [decide_eq_true rfl] at hsa
            have HSA := Hid.mk' hsa
            have H4 := Hid.mk' h4
            have HHH := Hid.mk' hh
            have HM0 := Hid.mk' hm00
            clear f1 f2 hn h4 hm0 hm00 hjc hsa hh
            go_wp2_with fail
            refine Calls.mono HSA.out ?_
            rintro e w5 ⟨rfl, h5⟩
            have H5 := Hid.mk' ((H4.out.then HAL.out).then h5)
            clear h5 H4 HAL HSA
            go_wp2
            refine ⟨⟨j + 1, by have := HM.out; omega, by simp, _, H5.out, fun h => ?_, fun _ => HHH.out⟩, ?_⟩
            · have := HM.out; have := HM0.out; omega
            · show i - ((j : Int) + 1).toNat < i - ((j : Int)).toNat
              have := HM.out
              omega
        · have hje : j = i := by have := HC.out; have := HJ.out; omega
          subst hje
          have hh := ll_holds (t := j) (k := key) HL.out (by have := HC2.out; unfold i64; omega) HK.out
          rw [HS2.out rfl, HC.out] at hh
          have HH := Hid.mk' hh
          have HAW := Hid.mk' (awake_any wr)
          have HG := Hid.mk' HL.out.grow
          clear hh HS1 HS2 HJ HL
          go_wp2_with fail
          refine Calls.mono HH.out ?_
          rintro e w6 ⟨rfl, rfl⟩
          go_wp2_with fail
          refine Calls.mono HAW.out ?_
          rintro e w7 ⟨rfl, h7⟩
          go_wp2
          go_ret
          exact ⟨rfl, (HG.out.trans h7).below (Nat.le_refl _) (fun _ _ h => h)⟩
set_option maxRecDepth 100000 in
theorem latchShared_lifted (os : Os) (started : os.Started) (H : Type) (enc : TypeId × Value → H) :
    ReturnsInHanded {} Try.checked os 7 .any (Rows.latchSharedSpec.pre6 enc Try.prog Try.f7 Rows.latchSharedRow.domain false) (Rows.latchSharedSpec.post enc Try.prog Try.f7 false true false false) := by
  refine returnsInHanded_of_change (C := Try.checked) (by kernel_rfl) started (by kernel_rfl) Try.func7
    (ChangeSpec.witness6 (enc := enc) (C := Try.checked) false ⟨#[], #[.int .i64 0, .int .u8 0], []⟩ 8 (by kernel_rfl) (by kernel_rfl) (by kernel_rfl) (by kernel_rfl)) ?_
  intro W base args ds gs before hval0 hW hcnd _
  have hval : ∀ (j : Nat) t v, Try.f7.params[j]? = some t → args[j]? = some v → Value.okWide Try.prog W .any base t v := hval0
  have hW' := hW
  obtain ⟨p, q, hA0, hV, rfl, hfz, hnd⟩ := hW
  have hA : DataW.TrodAll enc Try.prog W 0 (fun _ => true) true Try.f7.params.toList args.toList ds p := hA0
  rw [Try.params7] at hA hval
  obtain ⟨v0, vs0, d0, ds0, p0, q0, hargs, rfl, rfl, h0, r0⟩ := trodAll_cons hA
  obtain ⟨v1, vs1, d1, ds1, p1, q1, rfl, rfl, rfl, h1, r1⟩ := trodAll_cons r0
  obtain ⟨rfl, rfl, rfl⟩ := trodAll_nil r1
  obtain rfl : args = #[v0, v1] := by cases args; simp_all
  obtain ⟨rfl, rfl⟩ := trodVars_none hV
  obtain ⟨a0, rfl, rfl, rfl, w0⟩ := open_int Try.underlying3 (hval 0 3 v0 rfl rfl) h0
  obtain ⟨a1, rfl, rfl, rfl, w1⟩ := open_int Try.underlying5 (hval 1 5 v1 rfl rfl) h1
  clear hA0 hval0
  refine (latchShared_walk a0 a1 W w0 w1).mono fun e W' ⟨he, bel⟩ => ?_
  subst he
  exact ⟨_, rfl, _, _, _, [], _, [], hW', trodAll_mk1 (shut_bool Try.underlying4 _), (trodAll_cons_mk (shut_int Try.underlying3 w0) (trodAll_cons_mk (shut_int Try.underlying5 w1) trodAll_mk0)), rfl, bel.frame _, fun h => by cases h⟩

theorem latchShared_holds : Rows.LatchSharedSaid :=
  OpenClaim.holds_of_wide 7 Try.f7 rfl rfl rfl rfl rfl rfl rfl ⟨rfl, rfl, rfl, rfl, rfl⟩ rfl rfl rfl rfl rfl (by kernel_rfl) Try.func7 (by kernel_rfl)
    (of_decide_eq_true (by kernel_rfl)) (by unfold Func.isWrapper; first | (rw [if_pos (by decide +kernel)]; kernel_rfl) | (rw [if_neg (by decide +kernel)]; exact ⟨rfl, rfl⟩))
    (fun os started H enc _ => latchShared_lifted os started H enc)
#print axioms latchShared_holds
end Go.Proofs.Ytgldkckhliklhaa
