/- Behind a fault a reader tells nothing more, whatever it is asked, and the fault stays. No condition. -/
import Derived.Test.YtgffaekhhhkjcaaRowAwake
import Derived.Test.YtgffaekhhhkjcaaRecs
import Derived.ProofKit
import Derived.OpenShut
import Derived.ChangeOld
namespace Go.Proofs.Ytgffaekhhhkjcaa
open Go.ChangeShapes Go.WideShapes Go.ChangeAt Go.RowKit

/-- A reader that is down, asked once more: everything stays as it is. -/
theorem down_num {w : World} {r : Nat} {og : Option Nat} {f : Int} (h : Rd w r og [] f) (hf : f ≠ 0) (n : Int) :
    Calls Try.prog 17 #[.pointer (some ⟨r, 0, none⟩), .int .i64 n] w fun e w' => e = .returned (.int .u64 0) ∧ Rd w' r og [] f ∧ Below w.heap.size w w' :=
  (num_faulty h hf n).mono fun _ _ k => ⟨k.1, h.below k.2, k.2⟩
theorem down_take {w : World} {r : Nat} {og : Option Nat} {f : Int} (h : Rd w r og [] f) (hf : f ≠ 0) (n : Int) :
    Calls Try.prog 16 #[.pointer (some ⟨r, 0, none⟩), .int .i64 n] w fun e w' => e = .returned (.slice none 0 0) ∧ Rd w' r og [] f ∧ Below w.heap.size w w' :=
  (take_faulty h hf n).mono fun _ _ k => ⟨k.1, h.below k.2, k.2⟩
theorem down_end {w : World} {r : Nat} {og : Option Nat} {f : Int} (h : Rd w r og [] f) (hf : f ≠ 0) :
    Calls Try.prog 18 #[.pointer (some ⟨r, 0, none⟩)] w fun e w' => e = .returned (.int .i64 f) ∧ w' = w := by
  have := end_any h
  rw [if_neg hf] at this
  exact this
theorem down_left {w : World} {r : Nat} {og : Option Nat} {f : Int} (h : Rd w r og [] f) :
    Calls Try.prog 19 #[.pointer (some ⟨r, 0, none⟩)] w fun e w' => e = .returned (.int .i64 0) ∧ w' = w := left_any h

set_option maxHeartbeats 1000000 in
theorem rowSticks_walk (v : Value) (xs : List Nat) (over : Int) (sv : Value) (n : Nat) (Z : Nat → Nat → Int) (w : World) (hv : Bs w v xs ∧ xs.length ≤ 140737488351232) (_hov : (Lit.int .i64 over).wf = true) (hsv : Recs 2 w sv n Z) :
    Calls Try.prog 6 #[v, .int .i64 over, sv] w fun e w' => e = .returned (.bool true) ∧ Below w.heap.size w w' := by
  have HV : Hid (Bs w v xs) := hv.1
  have hl := hv.2
  obtain ⟨ao, cap, rfl, _, _⟩ := hv.1.gen
  have HS : Hid (Recs 2 w sv n Z) := hsv
  obtain ⟨sao, scap, rfl⟩ : ∃ sao scap, sv = .slice sao n scap := by
    obtain ⟨_, _, ⟨rfl, a, c, rfl⟩ | ⟨_, b, o, c, rfl, _⟩⟩ := hsv
    · exact ⟨_, _, rfl⟩
    · exact ⟨_, _, rfl⟩
  have hn := hsv.1
  clear hv hsv
  obtain ⟨L, hL⟩ : ∃ L, xs.length = L := ⟨_, rfl⟩
  have HL : Hid (xs.length = L) := hL
  rw [hL] at HV hl ⊢
  clear hL
  by_cases hin : 0 ≤ over ∧ over < 1000
  case' pos =>
    obtain ⟨h0, h1⟩ := hin
    go_enter Try.func6, Try.ntmps6
    go_wp2_with fail
    refine Calls.mono (new_any HV.out (by rw [HL.out]; omega)) ?_
    rintro e w1 ⟨r1, og1, rfl, hr1, hg1, hrd1, hb1⟩
    have HV1 : Hid (Bs w1 (.slice ao L cap) xs) := HV.out.below hb1
    have hs1 := hb1.size
    go_wp2_with fail
    refine Calls.mono (take_bad hrd1 (-1) 1 (.inl ⟨by decide, rfl⟩)) ?_
    rintro e w2 ⟨rfl, _, hbut2⟩
    have hb2 : Below w.heap.size w w2 := hb1.trans (hbut2.below hs1 (fun k hk e => by omega))
    have hs2 := hb2.size
    have HV2 : Hid (Bs w2 (.slice ao L cap) xs) := HV.out.below hb2
    clear hb1 hbut2
    go_wp2_with fail
    refine Calls.mono (new_any HV2.out (by rw [HL.out]; omega)) ?_
    rintro e w3 ⟨r, og, rfl, hr3, hg3, hrd3, hb3⟩
    have hs3 := hb3.size
    have hb3' : Below w.heap.size w w3 := hb2.trans (hb3.mono hs2)
    go_wp2_with fail
    refine Calls.mono (take_bad hrd3 _ 2 (.inr ⟨by rw [HL.out]; omega, rfl⟩)) ?_
    rintro e ws ⟨rfl, hrd, hbut4⟩
    have hbel : Below w.heap.size w ws := hb3'.trans (hbut4.below hb3'.size (fun k hk e => by omega))
    obtain ⟨f, hf⟩ : ∃ f : Int, f = 2 := ⟨_, rfl⟩
    have hf0 : f ≠ 0 := by omega
    rw [← hf] at hrd
    clear hf hbut4 hb3' hb3 hrd3 hg3 hb2 hg1 hrd1 HV1 HV2
  case' neg =>
    have hov : over < 0 ∨ 1000 ≤ over := by omega
    rcases hov with hov | hov
    all_goals
      go_enter Try.func6, Try.ntmps6
      go_wp2_with fail
      refine Calls.mono (new_any HV.out (by rw [HL.out]; omega)) ?_
      rintro e w1 ⟨r, og, rfl, hr1, hg1, hrd1, hb1⟩
      have hs1 := hb1.size
      go_wp2_with fail
      refine Calls.mono (take_bad hrd1 (-1) 1 (.inl ⟨by decide, rfl⟩)) ?_
      rintro e ws ⟨rfl, hrd, hbut2⟩
      have hbel : Below w.heap.size w ws := hb1.trans (hbut2.below hs1 (fun k hk e => by omega))
      obtain ⟨f, hf⟩ : ∃ f : Int, f = 1 := ⟨_, rfl⟩
      have hf0 : f ≠ 0 := by omega
      rw [← hf] at hrd
      clear hf hbut2 hb1 hg1 hrd1
  all_goals
    go_wp2_with fail
    refine Calls.mono (fault_any hrd) ?_
    rintro e w' ⟨rfl, hw⟩
    have hw' := hw.symm
    subst hw'
    have hfb : (f == 0) = false := by simp [hf0]
    go_wp2
    go_loopw [9] (fun i wr => ∃ k : Nat, k ≤ n ∧ i = .int .i64 k ∧ Rd wr r og [] f ∧ Below w.heap.size w wr) (fun i _ => n - (intOf i).toNat)
    case atStart => exact ⟨0, Nat.zero_le _, rfl, hrd, hbel⟩
    case round =>
      obtain ⟨k, hk, rfl, hrdr, hbr⟩ := hrel
      have hsr := hbr.size
      by_cases hlt : k < n
      · obtain ⟨_, _, ⟨h0, _⟩ | ⟨_, b, off, c, e', hcap, hblk, hc⟩⟩ := HS.out
        · omega
        simp only [Value.slice.injEq] at e'
        obtain ⟨rfl, _, rfl⟩ := e'
        have f1 : wr.cell? ⟨b, off + k * 2 + 1, none⟩ = some (.int .i64 (Z k 1)) := by
          rw [Nat.add_assoc]; exact (hbr.cell (by exact hblk)).trans (hc k 1 hlt (by decide))
        clear hc
        go_wp2_with fail
        refine Calls.mono (down_num hrdr hf0 _) ?_
        rintro e w5 ⟨rfl, hrd5, hb5⟩
        have f2 : w5.cell? ⟨b, off + k * 2 + 1, none⟩ = some (.int .i64 (Z k 1)) := (hb5.cell (by exact Nat.lt_of_lt_of_le hblk hsr)).trans f1
        have hb5' : Below w.heap.size w w5 := hbr.trans (hb5.mono hsr)
        have hs5 := hb5.size
        clear f1 hrdr hb5 hbr
        go_wp2_with fail
        refine Calls.mono (down_take hrd5 hf0 _) ?_
        rintro e w6 ⟨rfl, hrd6, hb6⟩
        have hb6' : Below w.heap.size w w6 := hb5'.trans (hb6.mono (by omega))
        clear f2 hrd5 hb6 hb5'
        go_wp2_with fail
        refine Calls.mono (down_left hrd6) ?_
        rintro e w7 ⟨rfl, hw⟩
        have hw' := hw.symm
        subst hw'
        go_wp2_with fail
        refine Calls.mono (fault_any hrd6) ?_
        rintro e w7 ⟨rfl, hw⟩
        have hw' := hw.symm
        subst hw'
        go_wp2_with fail
        refine Calls.mono (down_end hrd6 hf0) ?_
        rintro e w7 ⟨rfl, hw⟩
        have hw' := hw.symm
        subst hw'
        go_wp2
        go_roundw
        case rel => exact ⟨k + 1, by omega, by go_num, hrd6, hb6'⟩
        case measure => simp [intOf]; omega
      · go_wp2_with fail
        refine Calls.mono (awake_any _) ?_
        rintro e w5 ⟨rfl, hb5⟩
        go_wp2
        go_ret
        exact ⟨rfl, hbr.trans (hb5.mono hsr)⟩

set_option maxRecDepth 100000 in
theorem rowSticks_lifted (os : Os) (started : os.Started) (H : Type) (enc : TypeId × Value → H) :
    ReturnsInHanded {} Try.checked os 6 .any (Rows.rowSticksSpec.pre6 enc Try.prog Try.f6 Rows.rowSticksRow.domain false) (Rows.rowSticksSpec.post enc Try.prog Try.f6 false true false false) := by
  refine returnsInHanded_of_change_sized (C := Try.checked) (by kernel_rfl) started (by kernel_rfl) Try.func6
    (ChangeSpec.witness6 (enc := enc) (C := Try.checked) false ⟨#[], #[.slice none 0 0, .int .i64 0, .slice none 0 0], []⟩ 8 (by kernel_rfl) (by kernel_rfl) (by kernel_rfl) (by kernel_rfl)) ?_
  intro W base args ds gs before hval0 hW hcnd hsz0 _
  have hsz : (DataW.weightsEach Try.prog (Try.f6.params.toList ++ Rows.rowSticksSpec.plain.varTypes Try.prog) (ds ++ gs)).all (· ≤ reachBytes) = true := hsz0
  clear hsz0
  have hval : ∀ (j : Nat) t v, Try.f6.params[j]? = some t → args[j]? = some v → Value.okWide Try.prog W .any base t v := hval0
  have hW' := hW
  obtain ⟨p, q, hA0, hV, rfl, hfz, hnd⟩ := hW
  have hA : DataW.TrodAll enc Try.prog W 0 (fun _ => true) true Try.f6.params.toList args.toList ds p := hA0
  rw [Try.params6] at hA hval hsz
  obtain ⟨v0, vs0, d0, ds0, p0, q0, hargs, rfl, rfl, h0, r0⟩ := trodAll_cons hA
  obtain ⟨v1, vs1, d1, ds1, p1, q1, rfl, rfl, rfl, h1, r1⟩ := trodAll_cons r0
  obtain ⟨v2, vs2, d2, ds2, p2, q2, rfl, rfl, rfl, h2, r2⟩ := trodAll_cons r1
  obtain ⟨rfl, rfl, rfl⟩ := trodAll_nil r2
  obtain rfl : args = #[v0, v1, v2] := by cases args; simp_all
  obtain ⟨rfl, rfl⟩ := trodVars_none hV
  have lt0 : ∀ x ∈ p0, x.block < W.heap.size := by obtain ⟨m, hm⟩ := h0; exact DataW.trod_lt m _ _ _ hm
  obtain ⟨z0, w0⟩ := view_bytes Try.underlying22 Try.underlying5 (by kernel_rfl) (by kernel_rfl) (hval 0 22 v0 rfl rfl) h0 lt0 hsz (j := 0) rfl rfl
  obtain ⟨a1, rfl, rfl, rfl, w1⟩ := open_int Try.underlying3 (hval 1 3 v1 rfl rfl) h1
  have lt2 : ∀ x ∈ p2, x.block < W.heap.size := by obtain ⟨m, hm⟩ := h2; exact DataW.trod_lt m _ _ _ hm
  obtain ⟨n2, z2, w2⟩ := view_recs (k := 2) Try.underlying40 Try.underlying45 rfl (by decide) (by kernel_rfl) (of_decide_eq_true (by kernel_rfl)) (by intro j f hf; rcases j with _ | _ | j <;> simp at hf <;> subst hf <;> exact ⟨rfl, by kernel_rfl, by kernel_rfl⟩) (hval 2 40 v2 rfl rfl) h2 lt2 hsz (j := 2) rfl rfl
  clear hA0 hval0
  refine (rowSticks_walk v0 z0 a1 v2 n2 z2 W w0 w1 w2).mono fun e W' ⟨he, bel⟩ => ?_
  subst he
  exact ⟨_, rfl, _, _, _, [], _, [], hW', trodAll_mk1 (shut_bool Try.underlying4 _), (trodAll_cons_mk (Below.trod (by kernel_rfl) (by kernel_rfl) (of_decide_eq_true (by kernel_rfl)) h0 bel lt0) (trodAll_cons_mk (shut_int Try.underlying3 w1) (trodAll_cons_mk (Below.trod (by kernel_rfl) (by kernel_rfl) (of_decide_eq_true (by kernel_rfl)) h2 bel lt2) trodAll_mk0))), rfl, bel.frame _, fun h => by cases h⟩

theorem rowSticks_holds : Rows.RowSticksSaid :=
  OpenClaim.holds_of_wide 6 Try.f6 rfl rfl rfl rfl rfl rfl rfl ⟨rfl, rfl, rfl, rfl, rfl⟩ rfl rfl rfl rfl rfl (by kernel_rfl) Try.func6 (by kernel_rfl)
    (of_decide_eq_true (by kernel_rfl)) (by unfold Func.isWrapper; first | (rw [if_pos (by decide +kernel)]; kernel_rfl) | (rw [if_neg (by decide +kernel)]; exact ⟨rfl, rfl⟩))
    (fun os started H enc _ => rowSticks_lifted os started H enc)
#print axioms rowSticks_holds
end Go.Proofs.Ytgffaekhhhkjcaa
