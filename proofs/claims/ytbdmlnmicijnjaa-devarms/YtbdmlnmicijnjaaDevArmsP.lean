/- DevArms: the walk. -/
import Derived.Test.YtbdmlnmicijnjaaIntView
namespace Go.Proofs.Ytbdmlnmicijnjaa
open Go.ChangeShapes Go.WideShapes Go.ChangeAt Go.RowKit

theorem pick3 (x : Int) (w : World) :
    Calls Try.prog 12 #[.int .i64 x, .int .i64 3] w fun e w' => ∃ k : Nat, e = .returned (.int .i64 (k : Int)) ∧ k < 3 ∧ w' = w := by
  have ht1 : x.tmod 3 < 3 := Int.tmod_lt_of_pos x (by omega)
  have ht2 : -(3 : Int) < x.tmod 3 := by
    have := Int.lt_tmod_of_pos x (b := (3 : Int)) (by omega)
    omega
  obtain ⟨m, hm⟩ : ∃ m, m = x.tmod 3 := ⟨_, rfl⟩
  rw [← hm] at ht1 ht2
  by_cases hneg : m < 0
  · go_enter Try.func12, Try.ntmps12
    go_wp2
    go_ret
    exact ⟨(m + 3).toNat, by simp; omega, by omega, rfl⟩
  · go_enter Try.func12, Try.ntmps12
    go_wp2
    go_ret
    exact ⟨m.toNat, by simp; omega, by omega, rfl⟩
/-- What an access does to the numbers. -/
structure AccS (s s' : Dev) (ok : Bool) : Prop where
  ok' : ok = (s.up && !(s.arm == 1))
  cnt : s'.cnt = if s.up then s.cnt + 1 else s.cnt
  arm : s'.arm = if s.up then s.arm - 1 else s.arm
  up : s'.up = (s.up && !(s.arm == 1))
  len : s'.st.length = s.st.length
  wr : s'.wr.length ≤ s.wr.length + 1
structure AccTo (w0 : World) (gd : Nat) (s : Dev) (ok : Bool) (w' : World) : Prop where
  ex : ∃ own' s', DvN w0 w' own' gd s' ∧ AccS s s' ok
section
variable {w0 w : World} {own : Owner} {gd : Nat} {s : Dev}
theorem write_acc (h : DvN w0 w own gd s) {b : Nat} (hb : b < s.st.length) {v : Value} {xs : List Nat} (hv : Bf w (Is own .none) v xs) (hx : xs.length = 256) (hm : s.wr.length < 100000) (hc : s.cnt < 4611686018427387904) (ha : s.arm ≤ 9223372036854775807) :
    Calls Try.prog 27 #[.pointer (some ⟨gd, 0, none⟩), .int .i64 (b : Int), v] w fun e w' => ∃ ok : Bool, e = .returned (.int .i64 (if ok then 0 else 7)) ∧ AccTo w0 gd s ok w' := by
  cases hu : s.up with
  | false =>
    refine (write_down h.dv hu (b : Int) v).mono ?_
    rintro e w' ⟨rfl, rfl⟩
    exact ⟨false, rfl, own, s, h, by simp [hu], by simp [hu], by simp [hu], by simp [hu], rfl, by omega⟩
  | true =>
    refine (write_any h.dv hu hb hv hx hm hc ha).mono ?_
    rintro e w' ⟨rfl, h1⟩
    obtain ⟨own1, h2, -⟩ := h.to h1
    refine ⟨!(s.arm == 1), ?_, own1, _, h2, by simp [hu], by simp [hu]; rfl, by simp [hu]; rfl, by simp [hu]; rfl, rfl, ?_⟩
    · by_cases e : s.arm = 1 <;> simp [e]
    · show (s.wr ++ [(b, xs)]).length ≤ _
      simp
theorem flush_acc (h : DvN w0 w own gd s) (hc : s.cnt < 4611686018427387904) (ha : s.arm ≤ 9223372036854775807) :
    Calls Try.prog 19 #[.pointer (some ⟨gd, 0, none⟩)] w fun e w' => ∃ ok : Bool, e = .returned (.int .i64 (if ok then 0 else 7)) ∧ AccTo w0 gd s ok w' := by
  cases hu : s.up with
  | false =>
    refine (flush_down h.dv hu).mono ?_
    rintro e w' ⟨rfl, rfl⟩
    exact ⟨false, rfl, own, s, h, by simp [hu], by simp [hu], by simp [hu], by simp [hu], rfl, by omega⟩
  | true =>
    by_cases h1 : s.arm = 1
    · refine (flush_gone h.dv hu hc h1).mono ?_
      rintro e w' ⟨rfl, h3⟩
      obtain ⟨own1, h2, -⟩ := h.to h3
      exact ⟨false, rfl, own1, _, h2, by simp [hu, h1], by simp [hu]; rfl, by simp [hu]; rfl, by simp [hu]; rfl, rfl, by show s.wr.length ≤ _; omega⟩
    · refine (flush_any h.dv hu hc ha h1).mono ?_
      rintro e w' ⟨rfl, h3⟩
      obtain ⟨own1, h2, -⟩ := h.to h3
      exact ⟨true, rfl, own1, _, h2, by simp [hu, h1], by simp [hu]; rfl, by simp [hu]; rfl, by simp [hu]; rfl, by show ((List.range s.st.length).map _).length = _; simp, by show s.wr.length ≤ _; omega⟩
theorem spend_acc (h : DvN w0 w own gd s) (hc : s.cnt < 4611686018427387904) (ha : s.arm ≤ 9223372036854775807) :
    Calls Try.prog 28 #[.pointer (some ⟨gd, 0, none⟩)] w fun e w' => ∃ ok : Bool, e = .returned (.bool ok) ∧ AccTo w0 gd s ok w' := by
  refine (spend_any h.dv hc ha).mono ?_
  rintro e w' ⟨rfl, h3⟩
  obtain ⟨own1, h2, -⟩ := h.to h3
  refine ⟨_, rfl, own1, _, h2, rfl, ?_, ?_, ?_, ?_, ?_⟩
  all_goals (cases hu : s.up)
  all_goals first | (simp [hu]; done) | (simp; rfl) | (simp; show s.wr.length ≤ _; omega) | simp
end
/-- The numbers behind i accesses, armed for the a-th. -/
structure ArmI (a i : Nat) (s : Dev) : Prop where
  cnt : s.cnt = if a = 0 then i else min i a
  arm : s.arm = a - i
  up : s.up = decide (a = 0 ∨ i < a)
  len : s.st.length = 3
  wr : s.wr.length ≤ i
theorem ArmI.step {a i : Nat} {s s' : Dev} {ok : Bool} (h : ArmI a i s) (k : AccS s s' ok) : ArmI a (i + 1) s' ∧ ok = decide (a = 0 ∨ i + 1 < a) := by
  obtain ⟨h1, h2, h3, h4, h5⟩ := h
  obtain ⟨k1, k2, k3, k4, k5, k6⟩ := k
  have hok : (s.up && !(s.arm == 1)) = decide (a = 0 ∨ i + 1 < a) := by
    rw [h3, h2]
    rcases (by omega : a = 0 ∨ (0 < a ∧ i + 1 < a) ∨ (0 < a ∧ i + 1 = a) ∨ (0 < a ∧ a ≤ i)) with e | ⟨e, e2⟩ | ⟨e, e2⟩ | ⟨e, e2⟩
    · subst e; simp
    · have e3 : ¬ a - i = 1 := by omega
      simp [e3, show i < a by omega, e2]
    · have e3 : a - i = 1 := by omega
      simp [e3, show ¬ i + 1 < a by omega, show ¬ a = 0 by omega]
    · simp [show ¬ i < a by omega, show ¬ i + 1 < a by omega, show ¬ a = 0 by omega]
  refine ⟨⟨?_, ?_, by rw [k4, hok], by rw [k5, h4], by omega⟩, by rw [k1, hok]⟩
  · rw [k2, h1, h3]
    rcases (by omega : a = 0 ∨ (0 < a ∧ i < a) ∨ (0 < a ∧ a ≤ i)) with e | ⟨e, e2⟩ | ⟨e, e2⟩
    · subst e; simp
    · have : ¬ a = 0 := by omega
      simp [this, e2]; omega
    · have : ¬ a = 0 := by omega
      simp [this, show ¬ i < a by omega]; omega
  · rw [k3, h2, h3]
    rcases (by omega : a = 0 ∨ (0 < a ∧ i < a) ∨ (0 < a ∧ a ≤ i)) with e | ⟨e, e2⟩ | ⟨e, e2⟩
    · subst e; simp
    · simp [e2]; omega
    · have : ¬ a = 0 := by omega
      simp [this, show ¬ i < a by omega]; omega
structure ArmW (w wr : World) (gd a i : Nat) : Prop where
  ex : ∃ own s, DvN w wr own gd s ∧ ArmI a i s
set_option maxRecDepth 100000 in
set_option maxHeartbeats 4000000 in
theorem devArms_walk (n : Int) (v1 : Value) (fs : List Int) (w : World) (hn : (Lit.int .i64 n).wf = true) (h1 : IntS w v1 fs) :
    Calls Try.prog 6 #[.int .i64 n, v1] w fun e w' => e = .returned (.bool true) ∧ Below w.heap.size w w' := by
  have hnr : -9223372036854775808 ≤ n ∧ n ≤ 9223372036854775807 := by
    have e1 : IntKind.i64.min = -9223372036854775808 := rfl
    have e2 : IntKind.i64.max = 9223372036854775807 := rfl
    simp only [Lit.wf, e1, e2, Bool.and_eq_true, decide_eq_true_eq] at hn
    exact ⟨by omega, by omega⟩
  have HNW := Hid.mk' (new_any w 3 (by decide) (by decide))
  unfold Dev.fresh at HNW
  obtain ⟨st, hst⟩ : ∃ st, st = List.replicate 3 z256 := ⟨_, rfl⟩
  rw [← hst] at HNW
  have HSL : Hid (st.length = 3) := by show _ = _; rw [hst]; rfl
  have HIS : Hid (∀ wr, Grow w wr → IntS wr v1 fs) := fun wr hg => (IntF.but (F := fun _ => True) ⟨h1, fun _ _ _ => trivial⟩ hg (fun _ _ h => h)).1
  obtain ⟨ak, ck, rfl⟩ : ∃ ak ck, v1 = .slice ak fs.length ck := by
    rcases h1.2.2 with ⟨e, ao, cap, e2⟩ | ⟨-, b, off, cap, e2, -⟩
    · exact ⟨ao, cap, by rw [e2, e]; rfl⟩
    · exact ⟨_, _, e2⟩
  have hll : fs.length ≤ 140737488355328 := h1.2.1
  obtain ⟨l, hl⟩ : ∃ l, l = fs.length := ⟨_, rfl⟩
  have HL := Hid.mk' hl
  rw [← hl] at HIS hll ⊢
  clear hst h1 hn hl
  go_enter Try.func6, Try.ntmps6
  rcases (by omega : 1099511627776 < n ∨ n ≤ 1099511627776) with hbig | hbig
  case' inl =>
    go_wp2_with fail
    obtain ⟨N, hN⟩ : ∃ N : Int, (1099511627776 : Int) = N := ⟨_, rfl⟩
    have HNB : Hid (N ≤ 1099511627776 ∧ -9223372036854775808 ≤ N) := ⟨by omega, by omega⟩
    rw [hN]
    clear hN hbig hnr
  case' inr =>
    go_wp2_with fail
    obtain ⟨N, hN⟩ : ∃ N : Int, n = N := ⟨_, rfl⟩
    have HNB : Hid (N ≤ 1099511627776 ∧ -9223372036854775808 ≤ N) := ⟨by omega, by omega⟩
    rw [hN]
    clear hN hbig hnr
  all_goals (
    refine Calls.mono HNW.out ?_
    rintro e w1 ⟨gd, own, rfl, hd1⟩
    have HAR := Hid.mk' (arm_any hd1.dv N)
    have HD1 := Hid.mk' hd1
    clear hd1 HNW
    go_wp2_with fail
    refine Calls.mono HAR.out ?_
    rintro e w2 ⟨rfl, h2⟩
    obtain ⟨own2, hd2, -⟩ := HD1.out.to h2
    obtain ⟨a, ha⟩ : ∃ a, a = N.toNat := ⟨_, rfl⟩
    have HA := Hid.mk' ha
    have HW2 : Hid (ArmW w w2 gd a 0) := ⟨own2, _, hd2, by
      refine ⟨?_, ?_, ?_, HSL.out, Nat.zero_le _⟩
      · show 0 = _
        split <;> omega
      · show N.toNat = a - 0
        omega
      · show true = _
        have : a = 0 ∨ 0 < a := by omega
        simp [this]⟩
    clear h2 hd2 HD1 HAR ha
    go_wp2
    go_loopw [7] (fun iv wr => ∃ i : Nat, i ≤ l ∧ i ≤ 200 ∧ iv = .int .i64 i ∧ ArmW w wr gd a i) (fun iv _ => l - (intOf iv).toNat)
    case atStart => exact ⟨0, Nat.zero_le _, by decide, rfl, HW2.out⟩
    case round =>
      clear HW2
      obtain ⟨i, hil, hi2, rfl, hW⟩ := hrel
      have HW := Hid.mk' hW
      clear hW
      rcases (by omega : (i < l ∧ i < 200) ∨ (¬ i < l) ∨ (i < l ∧ ¬ i < 200)) with ⟨hlt, hi⟩ | hlt | ⟨hlt, hi⟩
      · have hlti : (i : Int) < (l : Int) := by omega
        have hii : (i : Int) < 200 := by omega
        obtain ⟨own, s, hd, hai⟩ := HW.out.ex
        obtain ⟨hr1, hr2, ⟨e, -⟩ | ⟨h0, b, off, cap, e, hb, hc⟩⟩ := HIS.out wr hd.grow
        · exact absurd HL.out (by rw [e]; simp; omega)
        simp only [Value.slice.injEq] at e
        obtain ⟨rfl, -, rfl⟩ := e
        have hif : i < fs.length := by rw [← HL.out]; exact hlt
        have cx := hc i hif
        obtain ⟨x, hx⟩ : ∃ x, x = fs.getD i 0 := ⟨_, rfl⟩
        rw [← hx] at cx
        have HDV := Hid.mk' hd
        have HAI := Hid.mk' hai
        have HCN : Hid (s.cnt < 4611686018427387904 ∧ s.arm ≤ 9223372036854775807) := by
          have h3 := hai.cnt
          have h4 := hai.arm
          have h5 := HA.out
          have h6 := HNB.out
          refine ⟨?_, ?_⟩
          · rw [h3]; split <;> omega
          · omega
        clear hr1 hr2 hb hc hx hif hd hai h0
        go_wp2_with fail
        refine Calls.mono (pick3 x wr) ?_
        rintro e wr ⟨p, rfl, hp, rfl⟩
        clear cx
        rcases (by omega : p = 0 ∨ p = 1 ∨ p = 2) with rfl | rfl | rfl
        case' inl =>
          obtain ⟨q, hq⟩ : ∃ q, q = i % 3 := ⟨_, rfl⟩
          have hq3 : q < 3 := by omega
          have hmod : Int.tmod (i : Int) 3 = (q : Int) := by rw [hq]; exact (Int.ofNat_tmod i 3).symm
          have HQ : Hid (q < s.st.length) := by rw [HAI.out.len]; exact hq3
          have HFU := Hid.mk' (full_any (Bs.nil wr))
          clear hq hp
          go_wp2_with fail
          refine Calls.mono HFU.out ?_
          rintro e w3 ⟨⟨ga, rfl, hga, hoa⟩, hg3⟩
          have hfw : wf256 (fullOf []) := fullOf_wf (by simp)
          have HWR := Hid.mk' (write_acc (HDV.out.then hg3) HQ.out (HDV.out.free hoa) hfw.1 (by have := HAI.out.wr; omega) HCN.out.1 HCN.out.2)
          clear hga hoa hg3 hfw HFU
          go_wp2_with fail
          refine Calls.mono HWR.out ?_
          rintro e w5 ⟨ok, rfl, hacc⟩
        case' inr.inl =>
          have HWR := Hid.mk' (flush_acc HDV.out HCN.out.1 HCN.out.2)
          clear hp
          go_wp2_with fail
          refine Calls.mono HWR.out ?_
          rintro e w5 ⟨ok, rfl, hacc⟩
        case' inr.inr =>
          have HWR := Hid.mk' (spend_acc HDV.out HCN.out.1 HCN.out.2)
          clear hp
          go_wp2_with fail
          refine Calls.mono HWR.out ?_
          rintro e w5 ⟨ok, rfl, hacc⟩
        all_goals (
          obtain ⟨own5, s5, hd5, hst5⟩ := hacc.ex
          obtain ⟨hai5, hok⟩ := HAI.out.step hst5
          have HUP := Hid.mk' (up_any hd5.dv)
          have HCO := Hid.mk' (count_any hd5.dv)
          rw [hai5.up, ← hok] at HUP
          have hc5 := hai5.cnt
          obtain ⟨c, hce⟩ : ∃ c, c = s5.cnt := ⟨_, rfl⟩
          rw [← hce] at HCO hc5
          have HWN : Hid (ArmW w w5 gd a (i + 1)) := ⟨own5, s5, hd5, hai5⟩
          have hai1 : IntKind.i64.wrap ((i : Int) + 1) = (i : Int) + 1 := wrap64 _ (by omega) (by omega)
          clear hacc hst5 hai5 hd5 hce HWR HDV HAI HCN HW
          have h5 := HA.out
          have hokc : (ok = true ∧ N < 1 ∧ c = i + 1) ∨ (ok = true ∧ 1 ≤ N ∧ (i : Int) + 1 < N ∧ c = i + 1) ∨ (ok = false ∧ 1 ≤ N ∧ N ≤ (i : Int) + 1 ∧ (c : Int) = N) := by
            rcases (by omega : a = 0 ∨ (0 < a ∧ i + 1 < a) ∨ (0 < a ∧ a ≤ i + 1)) with e | ⟨e, e2⟩ | ⟨e, e2⟩
            · rw [if_pos e] at hc5
              exact .inl ⟨by rw [hok]; simp [e], by omega, hc5⟩
            · rw [if_neg (by omega)] at hc5
              exact .inr (.inl ⟨by rw [hok]; simp [e2], by omega, by omega, by omega⟩)
            · rw [if_neg (by omega)] at hc5
              exact .inr (.inr ⟨by rw [hok]; simp; omega, by omega, by omega, by omega⟩)
          clear hok hc5 h5
          obtain ⟨C, hC⟩ : ∃ C : Int, C = (c : Int) := ⟨_, rfl⟩
          rw [← hC] at HCO
          rcases hokc with ⟨rfl, hN1, hcc⟩ | ⟨rfl, hN1, hN2, hcc⟩ | ⟨rfl, hN1, hN2, hcc⟩
          · obtain rfl : C = (i : Int) + 1 := by omega
            have hmx : max N 0 = 0 := by omega
            have hmn : min ((i : Int) + 1) 0 = 0 := by omega
            have hC0 : ¬ ((i : Int) + 1 = 0) := by omega
            clear hC hcc
            go_wp2_with fail
            refine Calls.mono HUP.out ?_
            rintro e w5 ⟨rfl, rfl⟩
            go_wp2_with fail
            refine Calls.mono HCO.out ?_
            rintro e w5 ⟨rfl, rfl⟩
            go_wp2_with fail
            refine Calls.mono HCO.out ?_
            rintro e w5 ⟨rfl, rfl⟩
            go_wp2
            exact ⟨⟨i + 1, by omega, by omega, by go_num, HWN.out⟩, by simp [intOf]; omega⟩
          · obtain rfl : C = (i : Int) + 1 := by omega
            have hmx : max N 0 = N := by omega
            have hmn : min ((i : Int) + 1) N = (i : Int) + 1 := by omega
            have hdec : decide (N ≤ (i : Int) + 1) = false := decide_eq_false (by omega)
            clear hC hcc hN2
            go_wp2_with fail
            refine Calls.mono HUP.out ?_
            rintro e w5 ⟨rfl, rfl⟩
            go_wp2_with fail
            refine Calls.mono HCO.out ?_
            rintro e w5 ⟨rfl, rfl⟩
            go_wp2
            exact ⟨⟨i + 1, by omega, by omega, by go_num, HWN.out⟩, by simp [intOf]; omega⟩
          · obtain rfl : C = N := by omega
            have hmx : max C 0 = C := by omega
            have hmn : min ((i : Int) + 1) C = C := by omega
            have hdec : decide (C ≤ (i : Int) + 1) = true := decide_eq_true hN2
            clear hC hcc
            go_wp2_with fail
            refine Calls.mono HUP.out ?_
            rintro e w5 ⟨rfl, rfl⟩
            go_wp2_with fail
            refine Calls.mono HCO.out ?_
            rintro e w5 ⟨rfl, rfl⟩
            go_wp2
            exact ⟨⟨i + 1, by omega, by omega, by go_num, HWN.out⟩, by simp [intOf]; omega⟩)
      all_goals (
        first
          | (have h1 : ¬ ((i : Int) < (l : Int)) := by omega)
          | (have h1 : (i : Int) < (l : Int) := by omega
             have h2 : ¬ ((i : Int) < 200) := by omega)
        obtain ⟨own, s, hd, -⟩ := HW.out.ex
        have HG := Hid.mk' hd.grow
        clear hd
        go_wp2_with fail
        refine Calls.mono (awake_any wr) ?_
        rintro e w6 ⟨rfl, h6⟩
        go_wp2
        go_ret
        exact ⟨rfl, (HG.out.trans h6).below (Nat.le_refl _) (fun _ _ h => h)⟩))

set_option maxRecDepth 100000 in
theorem devArms_lifted (os : Os) (started : os.Started) (H : Type) (enc : TypeId × Value → H) :
    ReturnsInHanded {} Try.checked os 6 .any (Rows.devArmsSpec.pre6 enc Try.prog Try.f6 Rows.devArmsRow.domain false) (Rows.devArmsSpec.post enc Try.prog Try.f6 false true false false) := by
  refine returnsInHanded_of_change_sized (C := Try.checked) (by kernel_rfl) started (by kernel_rfl) Try.func6
    (ChangeSpec.witness6 (enc := enc) (C := Try.checked) false ⟨#[], #[.int .i64 0, .slice none 0 0], []⟩ 8 (by kernel_rfl) (by kernel_rfl) (by kernel_rfl) (by kernel_rfl)) ?_
  intro W base args ds gs before hval0 hW hcnd hsz0 _
  have hsz : (DataW.weightsEach Try.prog (Try.f6.params.toList ++ Rows.devArmsSpec.plain.varTypes Try.prog) (ds ++ gs)).all (· ≤ reachBytes) = true := hsz0
  clear hsz0
  have hval : ∀ (j : Nat) t v, Try.f6.params[j]? = some t → args[j]? = some v → Value.okWide Try.prog W .any base t v := hval0
  have hW' := hW
  obtain ⟨p, q, hA0, hV, rfl, hfz, hnd⟩ := hW
  have hA : DataW.TrodAll enc Try.prog W 0 (fun _ => true) true Try.f6.params.toList args.toList ds p := hA0
  rw [Try.params6] at hA hval hsz
  obtain ⟨v0, vs0, d0, ds0, p0, q0, hargs, rfl, rfl, h0, r0⟩ := trodAll_cons hA
  obtain ⟨v1, vs1, d1, ds1, p1, q1, rfl, rfl, rfl, h1, r1⟩ := trodAll_cons r0
  obtain ⟨rfl, rfl, rfl⟩ := trodAll_nil r1
  obtain rfl : args = #[v0, v1] := by cases args; simp_all
  obtain ⟨rfl, rfl⟩ := trodVars_none hV
  obtain ⟨a0, rfl, rfl, rfl, w0⟩ := open_int Try.underlying3 (hval 0 3 v0 rfl rfl) h0
  have lt1 : ∀ x ∈ p1, x.block < W.heap.size := by obtain ⟨m, hm⟩ := h1; exact DataW.trod_lt m _ _ _ hm
  obtain ⟨z1, w1⟩ := view_ints Try.underlying33 Try.underlying3 (by kernel_rfl) (by kernel_rfl) (hval 1 33 v1 rfl rfl) h1 lt1 hsz (j := 1) rfl rfl
  clear hA0 hval0
  refine (devArms_walk a0 v1 z1 W w0 w1).mono fun e W' ⟨he, bel⟩ => ?_
  subst he
  exact ⟨_, rfl, _, _, _, [], _, [], hW', trodAll_mk1 (shut_bool Try.underlying4 _), (trodAll_cons_mk (shut_int Try.underlying3 w0) (trodAll_cons_mk (Below.trod (by kernel_rfl) (by kernel_rfl) (of_decide_eq_true (by kernel_rfl)) h1 bel lt1) trodAll_mk0)), rfl, bel.frame _, fun h => by cases h⟩

theorem devArms_holds : Rows.DevArmsSaid :=
  OpenClaim.holds_of_wide 6 Try.f6 rfl rfl rfl rfl rfl rfl rfl ⟨rfl, rfl, rfl, rfl, rfl⟩ rfl rfl rfl rfl rfl (by kernel_rfl) Try.func6 (by kernel_rfl)
    (of_decide_eq_true (by kernel_rfl)) (by unfold Func.isWrapper; first | (rw [if_pos (by decide +kernel)]; kernel_rfl) | (rw [if_neg (by decide +kernel)]; exact ⟨rfl, rfl⟩))
    (fun os started H enc _ => devArms_lifted os started H enc)
#print axioms devArms_holds
end Go.Proofs.Ytbdmlnmicijnjaa
