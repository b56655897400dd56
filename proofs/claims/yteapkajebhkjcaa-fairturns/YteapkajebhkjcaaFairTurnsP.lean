/- Of two tasks, the one of which has a weight twice as great, it has two turns of three, and whoever sleeps has none: for any shift and any byte. No condition. -/
import Derived.Test.YteapkajebhkjcaaFaAwake
import Derived.Test.YteapkajebhkjcaaPickAny
import Derived.Test.YteapkajebhkjcaaGuards
import Derived.ProofKit
import Derived.OpenShut
import Derived.ChangeOld
import Derived.Below
namespace Go.Proofs.Yteapkajebhkjcaa
open Go.ChangeShapes Go.WideShapes Go.ChangeAt Go.RowKit

theorem wf_u8 {z : Int} (h : (Lit.int .u8 z).wf = true) : 0 ≤ z ∧ z ≤ 255 := by
  have h1 : IntKind.u8.min ≤ z ∧ z ≤ IntKind.u8.max := by simpa [Lit.wf, go_sem] using h
  have e1 : IntKind.u8.min = 0 := rfl
  have e2 : IntKind.u8.max = 255 := rfl
  omega
/-- 2 to the s. -/
def two (s : Nat) : Nat := 4607182418800017408 + s * 4503599627370496
def tT (s a b : Nat) : List Sh := [⟨two s, a, true⟩, ⟨two (s + 1), b, true⟩, ⟨4607182418800017408, 0, false⟩]
theorem mul_two {s : Nat} (h : s < 8) : Ieee.double.mul (two s) 4611686018427387904 = some (two (s + 1)) ∧ Ieee.double.mul 4611686018427387904 (two s) = some (two (s + 1)) := by
  rcases (by omega : s = 0 ∨ s = 1 ∨ s = 2 ∨ s = 3 ∨ s = 4 ∨ s = 5 ∨ s = 6 ∨ s = 7) with rfl | rfl | rfl | rfl | rfl | rfl | rfl | rfl <;> decide +kernel
theorem set_up {s : Nat} (h : s < 8) : cod (fresh 3) 0 = 0 ∧ cod (wgt (fresh 3) 0 (two s)) 1 = 0 ∧ cod (wgt (wgt (fresh 3) 0 (two s)) 1 (two (s + 1))) 0 = 0 ∧ cod (wak (wgt (wgt (fresh 3) 0 (two s)) 1 (two (s + 1))) 0) 1 = 0 ∧ two s < 18446744073709551616 ∧ two (s + 1) < 18446744073709551616 := by
  rcases (by omega : s = 0 ∨ s = 1 ∨ s = 2 ∨ s = 3 ∨ s = 4 ∨ s = 5 ∨ s = 6 ∨ s = 7) with rfl | rfl | rfl | rfl | rfl | rfl | rfl | rfl <;> decide +kernel
theorem set_st {s : Nat} (h : s < 8) : wak (wak (wgt (wgt (fresh 3) 0 (two s)) 1 (two (s + 1))) 0) 1 = tT s 0 0 := by
  rcases (by omega : s = 0 ∨ s = 1 ∨ s = 2 ∨ s = 3 ∨ s = 4 ∨ s = 5 ∨ s = 6 ∨ s = 7) with rfl | rfl | rfl | rfl | rfl | rfl | rfl | rfl <;> kernel_rfl
theorem fdv_two {s : Nat} (h : s ≤ 8) : fdv (two s) = (1022 - s + 1) * 4503599627370496 + 0 := by
  rcases (by omega : s = 0 ∨ s = 1 ∨ s = 2 ∨ s = 3 ∨ s = 4 ∨ s = 5 ∨ s = 6 ∨ s = 7 ∨ s = 8) with rfl | rfl | rfl | rfl | rfl | rfl | rfl | rfl | rfl <;> decide +kernel
/-- The unit: half of what the first one's pass rises by. -/
def un (s : Nat) : Nat := 1022 - (s + 1) + 52
theorem vl_d1 {s : Nat} (h : s < 8) : vl (fdv (two (s + 1))) = 1 * 2 ^ un s := by
  rw [fdv_two (by omega), vl_norm _ 0 (by decide)]
  unfold un
  rw [Nat.add_zero, Nat.one_mul, Nat.add_comm _ 52, Nat.pow_add]
theorem vl_d0 {s : Nat} (h : s < 8) : vl (fdv (two s)) = 2 * 2 ^ un s := by
  rw [fdv_two (by omega), vl_norm _ 0 (by decide)]
  unfold un
  rw [Nat.add_zero, Nat.add_comm _ 52, Nat.pow_add, show 1022 - s = 1022 - (s + 1) + 1 by omega, Nat.pow_succ]
  generalize 2 ^ (1022 - (s + 1)) = P
  omega
theorem vl_big {s A : Nat} (hA : A ≤ 4096) : A * 2 ^ un s < vl 9218868437227405312 := by
  obtain ⟨e, he⟩ : ∃ e, e = 2046 := ⟨_, rfl⟩
  have h1 := vl_norm e 0 (by decide)
  rw [show (e + 1) * 4503599627370496 + 0 = 9218868437227405312 by omega] at h1
  rw [h1]
  obtain ⟨j, hj⟩ : ∃ j, j = 1074 := ⟨_, rfl⟩
  have h2 : A * 2 ^ un s ≤ 4096 * 2 ^ j := Nat.mul_le_mul hA (Nat.pow_le_pow_right (by decide) (by unfold un; omega))
  refine Nat.lt_of_le_of_lt h2 ?_
  exact Nat.mul_lt_mul_of_lt_of_le (by decide) (Nat.pow_le_pow_right (by decide) (by omega)) (Nat.two_pow_pos _)
theorem fad_vl {s a d A D : Nat} (ha : vl a = A * 2 ^ un s) (hd : vl d = D * 2 ^ un s) (hA : A + D ≤ 4096) : vl (fad a d) = (A + D) * 2 ^ un s := by
  obtain ⟨r, hr⟩ := vl_rep (m := A + D) (k := un s) (by omega)
  have h1 : a < 9218868437227405312 := by rw [← vl_lt_iff, ha]; exact vl_big (by omega)
  have h2 : d < 9218868437227405312 := by rw [← vl_lt_iff, hd]; exact vl_big (by omega)
  have h3 : r < 9218868437227405312 := by rw [← vl_lt_iff, hr]; exact vl_big hA
  have h4 : fad a d = r := by
    unfold fad
    rw [if_neg (by omega), ha, hd, ← Nat.add_mul, ← hr, rnd_vl]
    omega
  rw [h4, hr]
theorem tT_aw (s a b : Nat) : awN (tT s a b) = [0, 1] := rfl
theorem tT_nx {s a b : Nat} (ha : a ≤ 9218868437227405312) (hb : b ≤ 9218868437227405312) : nxI (tT s a b) = if b < a then 1 else 0 := by
  unfold nxI
  rw [tT_aw]
  show (if ls b a then 1 else 0) = _
  rw [ls_pos hb ha]
  by_cases h : b < a
  · rw [decide_eq_true h, if_pos rfl, if_pos h]
  · rw [decide_eq_false h, if_neg (by decide), if_neg h]
theorem tT_s0 {s a b : Nat} (ha : a ≤ 9218868437227405312) (hb : b ≤ 9218868437227405312) (h : ¬ b < a) : nxS (tT s a b) = tT s (fad a (fdv (two s))) b := by
  unfold nxS
  rw [tT_nx ha hb, if_neg h, tT_aw]
  rfl
theorem tT_s1 {s a b : Nat} (ha : a ≤ 9218868437227405312) (hb : b ≤ 9218868437227405312) (h : b < a) : nxS (tT s a b) = tT s a (fad b (fdv (two (s + 1)))) := by
  unfold nxS
  rw [tT_nx ha hb, if_pos h, tT_aw]
  rfl
/-- Behind t turns: what each one had, how far each is. -/
structure TuI (s t : Nat) (T : List Sh) (h0 h1 : Nat) : Prop where
  ex : ∃ a b A B, T = tT s a b ∧ vl a = A * 2 ^ un s ∧ vl b = B * 2 ^ un s ∧ ((t % 3 = 0 ∧ h0 = t / 3 ∧ h1 = 2 * (t / 3) ∧ A = 2 * (t / 3) ∧ B = 2 * (t / 3)) ∨ (t % 3 = 1 ∧ h0 = t / 3 + 1 ∧ h1 = 2 * (t / 3) ∧ A = 2 * (t / 3) + 2 ∧ B = 2 * (t / 3)) ∨ (t % 3 = 2 ∧ h0 = t / 3 + 1 ∧ h1 = 2 * (t / 3) + 1 ∧ A = 2 * (t / 3) + 2 ∧ B = 2 * (t / 3) + 1))
theorem TuI.next {s t h0 h1 : Nat} {T : List Sh} (hs : s < 8) (ht : t < 765) (h : TuI s t T h0 h1) : (nxI T = 0 ∧ TuI s (t + 1) (nxS T) (h0 + 1) h1) ∨ (nxI T = 1 ∧ TuI s (t + 1) (nxS T) h0 (h1 + 1)) := by
  obtain ⟨a, b, A, B, rfl, va, vb, hc⟩ := h.ex
  have hp : 0 < 2 ^ un s := Nat.two_pow_pos _
  have hA : A ≤ 600 := by omega
  have hB : B ≤ 600 := by omega
  have ia : a ≤ 9218868437227405312 := by
    have : a < 9218868437227405312 := by rw [← vl_lt_iff, va]; exact vl_big (by omega)
    omega
  have ib : b ≤ 9218868437227405312 := by
    have : b < 9218868437227405312 := by rw [← vl_lt_iff, vb]; exact vl_big (by omega)
    omega
  have hlt : b < a ↔ B < A := by
    rw [← vl_lt_iff, va, vb]
    exact ⟨fun h => Nat.lt_of_mul_lt_mul_right h, fun h => Nat.mul_lt_mul_of_pos_right h hp⟩
  by_cases hba : B < A
  · right
    rw [tT_nx ia ib, tT_s1 ia ib (hlt.2 hba), if_pos (hlt.2 hba)]
    refine ⟨rfl, ⟨a, _, A, B + 1, rfl, va, fad_vl vb (vl_d1 hs) (by omega), ?_⟩⟩
    clear hlt va vb ia ib hp
    rcases hc with ⟨c1, c2, c3, c4, c5⟩ | ⟨c1, c2, c3, c4, c5⟩ | ⟨c1, c2, c3, c4, c5⟩
    · omega
    · refine .inr (.inr ⟨by omega, ?_, ?_, ?_, ?_⟩) <;> rw [show (t + 1) / 3 = t / 3 by omega] <;> omega
    · refine .inl ⟨by omega, ?_, ?_, ?_, ?_⟩ <;> rw [show (t + 1) / 3 = t / 3 + 1 by omega] <;> omega
  · left
    rw [tT_nx ia ib, tT_s0 ia ib (fun e => hba (hlt.1 e)), if_neg (fun e => hba (hlt.1 e))]
    refine ⟨rfl, ⟨_, b, A + 2, B, rfl, fad_vl va (vl_d0 hs) (by omega), vb, ?_⟩⟩
    clear hlt va vb ia ib hp
    rcases hc with ⟨c1, c2, c3, c4, c5⟩ | ⟨c1, c2, c3, c4, c5⟩ | ⟨c1, c2, c3, c4, c5⟩
    · refine .inr (.inl ⟨by omega, ?_, ?_, ?_, ?_⟩) <;> rw [show (t + 1) / 3 = t / 3 by omega] <;> omega
    · omega
    · omega
theorem tT_fb (s a b : Nat) : (awN (tT s a b)).isEmpty = false := rfl
theorem TuI.aw {s t h0 h1 : Nat} {T : List Sh} (h : TuI s t T h0 h1) : (awN T).isEmpty = false := by
  obtain ⟨a, b, A, B, rfl, -⟩ := h.ex
  rfl
theorem exec_mulF {P : Program} {w w' : World} {o : Oper} {ρ : Operand → Value} {t t2 : TypeId} {x y : Operand} {u v r : Value} (ho : o.op = .binOp .mul t x y t2) (hx : ρ x = u) (hy : ρ y = v) (h : (binOp .mul t u v).run P w = .ok r w') : (execOp ρ o).run P w = .ok (.value r) w' := by
  have e : (eqGuard .mul t x y u v).run P w = .ok () w := rfl
  unfold execOp
  simp only [ho, hx, hy, Sem.run_bind, e, Result.andThen_ok, h, Sem.run_pure]
theorem wpList_wantF {ops : Array Oper} {rest : List Oper} {o : Oper} {a : Act} {w w' : World} {Q : Exit → Act → World → Prop} {v : Value} (hw : Region.wanted o (yielded ops a.tmps) = true) (hr : (execOp a.eval o).run Try.prog w = .ok (.value v) w') (h : wpList Try.prog ops Q rest (a.put o.dst v) w') : wpList Try.prog ops Q (o :: rest) a w :=
  wpList_want hw fun _ hK => by
    unfold Oper.wp
    rw [hr]
    exact hK _ _ h
theorem iIn : (Try.prog.info? 3).map (·.size) = some 1 := by kernel_rfl
set_option maxRecDepth 100000 in
set_option maxHeartbeats 4000000 in
theorem fairTurns_walk (x rs : Int) (w : World) (_ : (Lit.int .i64 x).wf = true) (hr0 : (Lit.int .u8 rs).wf = true) : Calls Try.prog 6 #[.int .i64 x, .int .u8 rs] w fun e w' => e = .returned (.bool true) ∧ Below w.heap.size w w' := by
  have hr := wf_u8 hr0
  obtain ⟨S, hS⟩ : ∃ S : Nat, x % 8 = (S : Int) := ⟨(x % 8).toNat, by have := Int.emod_nonneg x (b := 8) (by decide); omega⟩
  have hS8 : S < 8 := by omega
  have HP : Hid (∀ wz : World, Calls Try.prog 18 #[.int .i64 x, .int .i64 8] wz fun e w' => e = .returned (.int .i64 (S : Int)) ∧ w' = wz) := fun wz => by
    have := pick_any x 8 wz (by decide) (by decide)
    rw [hS] at this
    exact this
  have HS8 := Hid.mk' hS8
  have hwr : IntKind.i64.wrap rs = rs := wrapI (by omega) (by omega)
  obtain ⟨R, hR⟩ : ∃ R : Nat, rs = (R : Int) := ⟨rs.toNat, by omega⟩
  subst hR
  have HR : Hid (R ≤ 255) := Hid.mk' (by omega)
  have hRi : (R : Int) ≤ 255 := by omega
  have HN := Hid.mk' (fl_new w 3 (by decide) (by decide))
  have hSi : (S : Int) ≤ 7 := by omega
  clear hr0 hr hS hS8
  go_enter Try.func6, Try.ntmps6
  go_wp2
  go_loopw [5, 6] (fun wv iv wr => ∃ i : Nat, i ≤ S ∧ iv = .int .i64 i ∧ wv = .float .f64 (two i) ∧ wr = w) (fun _ iv _ => S - (intOf iv).toNat)
  case atStart => exact ⟨0, Nat.zero_le _, rfl, rfl, rfl⟩
  case round =>
    obtain ⟨i, hiS, rfl, rfl, hwx⟩ := hrel
    have h2 := hwx.symm
    subst h2
    clear hwx
    by_cases hlt : (i : Int) < (S : Int)
    · obtain ⟨t1, ht1⟩ : ∃ t1, t1 = two (i + 1) := ⟨_, rfl⟩
      have HMU : Hid (∀ wz : World, (binOp .mul 31 (.float .f64 (two i)) (.float .f64 4611686018427387904)).run Try.prog wz = .ok (.float .f64 t1) wz) := fun wz => by rw [ht1]; exact run_float_arith wz .mul _ .f64 _ _ _ (mul_two (by have := HS8.out; omega)).1
      have HT1 := Hid.mk' ht1
      generalize two i = t0 at *
      clear hiS ht1
      go_wp2_with fail
      refine Calls.mono (HP.out _) ?_
      rintro e w' ⟨rfl, hw⟩
      have h2 := hw.symm
      subst h2
      clear hw
      go_wp2_with (first
        | (refine wpList_runH rfl (exec_mulF rfl rfl rfl (HMU.out _)) ?_)
        | fail)
      exact ⟨⟨i + 1, by omega, by go_num, by rw [HT1.out], trivial⟩, by simp [intOf]; omega⟩
    · have hie : i = S := by omega
      subst hie
      obtain ⟨c1, c2, c3, c4, b1, b2⟩ := set_up HS8.out
      have HST := Hid.mk' (set_st HS8.out)
      have HMU : Hid (∀ wz : World, (binOp .mul 31 (.float .f64 4611686018427387904) (.float .f64 (two i))).run Try.prog wz = .ok (.float .f64 (two (i + 1))) wz) := fun wz => run_float_arith wz .mul _ .f64 _ _ _ (mul_two HS8.out).2
      have C1 := Hid.mk' c1
      have C2 := Hid.mk' c2
      have C3 := Hid.mk' c3
      have C4 := Hid.mk' c4
      have B1 := Hid.mk' b1
      have B2 := Hid.mk' b2
      clear hiS c1 c2 c3 c4 b1 b2
      go_wp2_with fail
      refine Calls.mono (HP.out _) ?_
      rintro e w' ⟨rfl, hw⟩
      have h2 := hw.symm
      subst h2
      clear hw HP
      go_wp2_with fail
      refine Calls.mono HN.out ?_
      rintro e w1 ⟨g, gt, rfl, h1⟩
      have h2 := fl_weight (i := 0) h1 B1.out
      rw [C1.out] at h2
      have H2 := Hid.mk' h2
      clear h1 h2 HN
      go_wp2_with fail
      refine Calls.mono H2.out ?_
      rintro e w2 ⟨rfl, h1, -⟩
      have h2 := fl_weight (i := 1) h1 B2.out
      rw [C2.out] at h2
      have H3 := Hid.mk' h2
      clear h1 h2 H2
      go_wp2_with (first
        | (refine wpList_wantF (by kernel_rfl) (exec_mulF rfl rfl rfl (HMU.out _)) ?_)
        | fail)
      refine Calls.mono H3.out ?_
      rintro e w3 ⟨rfl, h1, -⟩
      have h2 := fl_wake (i := 0) h1
      rw [C3.out] at h2
      have H4 := Hid.mk' h2
      clear h1 h2 H3
      go_wp2_with fail
      refine Calls.mono H4.out ?_
      rintro e w4 ⟨rfl, h1, -⟩
      have h2 := fl_wake (i := 1) h1
      rw [C4.out, HST.out] at h2
      have H5 := Hid.mk' h2
      clear h1 h2 H4
      go_wp2_with fail
      refine Calls.mono H5.out ?_
      rintro e w5 ⟨rfl, h1, -⟩
      obtain ⟨gh, hgh⟩ : ∃ gh, gh = w5.heap.size := ⟨_, rfl⟩
      have k6 : Grow w5 (w5.alloc (.cells #[.int .i64 0, .int .i64 0, .int .i64 0] 51)) := (But.refl _ _).alloc _
      have hb6 : Blk (w5.alloc (.cells #[.int .i64 0, .int .i64 0, .int .i64 0] 51)) gh 51 [.int .i64 0, .int .i64 0, .int .i64 0] := Blk.new (L := [.int .i64 0, .int .i64 0, .int .i64 0]) hgh.symm
      have hne : gh ≠ gt := fun e => by have := h1.fr.b.tsk.lt; omega
      have HNE := Hid.mk' hne
      have HNG : Hid (gh ≠ g) := fun e => by have := h1.fr.b.row.lt; omega
      have HGG : Hid (w.heap.size ≤ gh) := Hid.mk' (by have := h1.grow.size; omega)
      have HL6 := Hid.mk' (h1.then k6)
      have HB6 := Hid.mk' hb6
      have HGH := Hid.mk' hgh
      clear h1 k6 hb6 hgh hne H5 C1 C2 C3 C4 B1 B2 HMU HST
      go_upto_region 10 with fail
      rw [← HGH.out]
      generalize w5.alloc (.cells #[.int .i64 0, .int .i64 0, .int .i64 0] 51) = w6 at *
      clear HGH
      go_wp2
      go_loopw [10] (fun tv wr => ∃ (t h0 h1 : Nat) (T : List Sh), t ≤ 3 * R ∧ tv = .int .i64 t ∧ Fl w wr g gt T ∧ TuI i t T h0 h1 ∧ Blk wr gh 51 [.int .i64 (h0 : Int), .int .i64 (h1 : Int), .int .i64 0]) (fun tv _ => 3 * R - (intOf tv).toNat)
      case atStart => exact ⟨0, 0, 0, _, Nat.zero_le _, rfl, HL6.out, ⟨0, 0, 0, 0, rfl, by rw [Nat.zero_mul]; rfl, by rw [Nat.zero_mul]; rfl, .inl ⟨rfl, rfl, rfl, rfl, rfl⟩⟩, HB6.out⟩
      case round =>
        clear HL6 HB6
        obtain ⟨t, h0, h1, T, htR, rfl, hL, hT, hB⟩ := hrel
        by_cases hlt2 : (t : Int) < 3 * (R : Int)
        · have htb : (t : Int) ≤ 765 := by omega
          have hTn := hT.next HS8.out (by have := HR.out; omega)
          have hbnd : h0 ≤ 1000 ∧ h1 ≤ 1000 := by
            obtain ⟨a, b, A, B, -, -, -, hc⟩ := hT.ex
            have := HR.out
            omega
          have h2 := fl_next hL
          rw [hT.aw] at h2
          have hh0 : (h0 : Int) ≤ 1000 := by omega
          have hh1 : (h1 : Int) ≤ 1000 := by omega
          have HB := Hid.mk' hB
          rcases hTn with ⟨e1, hTn⟩ | ⟨e1, hTn⟩
          · rw [e1] at h2
            have H2 := Hid.mk' h2
            have HTN := Hid.mk' hTn
            clear h2 hL hT hB hTn hbnd e1 htR
            go_wp2_with fail
            refine Calls.mono H2.out ?_
            rintro e w7 ⟨rfl, h3, hb3⟩
            have hb7 := HB.out.but hb3 HNE.out
            have d0 : w7.cell? ⟨gh, 0, none⟩ = some (.int .i64 (h0 : Int)) := hb7.cell 0
            have HB7 := Hid.mk' hb7
            have H3 := Hid.mk' h3
            have ks := But.set1 w7 gh 0 (.int .i64 ((h0 : Int) + 1))
            have HL8 : Hid (Fl w (w7.setCell ⟨gh, 0, none⟩ (.int .i64 ((h0 : Int) + 1))) g gt (nxS T)) := Hid.mk' ⟨h3.fr.but ks (fun e => HNG.out e.symm) (fun e => HNE.out e.symm), h3.grow.then ks (fun j hj e => by have := HGG.out; omega), h3.ng, h3.nt⟩
            have HB8 : Hid (Blk (w7.setCell ⟨gh, 0, none⟩ (.int .i64 ((h0 : Int) + 1))) gh 51 [.int .i64 ((h0 + 1 : Nat) : Int), .int .i64 (h1 : Int), .int .i64 0]) := Hid.mk' (hb7.set 0 (.int .i64 ((h0 : Int) + 1)))
            clear h3 hb3 hb7 ks H2
            go_wp2_with (first
              | (refine wpList_skipH rfl (exec_store (g := gh) (i := 0) (v := .int .i64 ((h0 : Int) + 1)) iIn rfl rfl rfl rfl HB7.out (by simp)) ?_)
              | fail)
            exact ⟨⟨t + 1, h0 + 1, h1, _, by omega, by go_num, HL8.out, HTN.out, HB8.out⟩, by simp [intOf]; omega⟩
          · rw [e1] at h2
            have H2 := Hid.mk' h2
            have HTN := Hid.mk' hTn
            clear h2 hL hT hB hTn hbnd e1 htR
            go_wp2_with fail
            refine Calls.mono H2.out ?_
            rintro e w7 ⟨rfl, h3, hb3⟩
            have hb7 := HB.out.but hb3 HNE.out
            have d0 : w7.cell? ⟨gh, 1, none⟩ = some (.int .i64 (h1 : Int)) := hb7.cell 1
            have HB7 := Hid.mk' hb7
            have ks := But.set1 w7 gh 1 (.int .i64 ((h1 : Int) + 1))
            have HL8 : Hid (Fl w (w7.setCell ⟨gh, 1, none⟩ (.int .i64 ((h1 : Int) + 1))) g gt (nxS T)) := Hid.mk' ⟨h3.fr.but ks (fun e => HNG.out e.symm) (fun e => HNE.out e.symm), h3.grow.then ks (fun j hj e => by have := HGG.out; omega), h3.ng, h3.nt⟩
            have HB8 : Hid (Blk (w7.setCell ⟨gh, 1, none⟩ (.int .i64 ((h1 : Int) + 1))) gh 51 [.int .i64 (h0 : Int), .int .i64 ((h1 + 1 : Nat) : Int), .int .i64 0]) := Hid.mk' (hb7.set 1 (.int .i64 ((h1 : Int) + 1)))
            clear h3 hb3 hb7 ks H2
            go_wp2_with (first
              | (refine wpList_skipH rfl (exec_store (g := gh) (i := 1) (v := .int .i64 ((h1 : Int) + 1)) iIn rfl rfl rfl rfl HB7.out (by simp)) ?_)
              | fail)
            exact ⟨⟨t + 1, h0, h1 + 1, _, by omega, by go_num, HL8.out, HTN.out, HB8.out⟩, by simp [intOf]; omega⟩
        · have hte : t = 3 * R := by omega
          have hfin : h0 = R ∧ h1 = 2 * R := by
            obtain ⟨a, b, A, B, -, -, -, hc⟩ := hT.ex
            omega
          obtain ⟨e0, e1⟩ := hfin
          subst e0
          have d0 : wr.cell? ⟨gh, 0, none⟩ = some (.int .i64 (h0 : Int)) := hB.cell 0
          have d1 : wr.cell? ⟨gh, 1, none⟩ = some (.int .i64 (2 * (h0 : Int))) := by
            have := hB.cell 1
            rw [e1] at this
            exact this
          have d2 : wr.cell? ⟨gh, 2, none⟩ = some (.int .i64 0) := hB.cell 2
          have HAW := Hid.mk' (awake_any wr)
          have HG := Hid.mk' hL.grow
          have q1 : ((h0 : Int) == (h0 : Int)) = true := by simp
          have q2 : ((2 : Int) * (h0 : Int) == 2 * (h0 : Int)) = true := by simp
          clear hL hT hB htR hte e1
          go_wp2_with fail
          refine Calls.mono HAW.out ?_
          rintro e w7 ⟨rfl, h7⟩
          go_wp2
          go_ret
          exact ⟨rfl, (HG.out.trans h7).below (Nat.le_refl _) (fun _ _ h => h)⟩
set_option maxRecDepth 100000 in
theorem fairTurns_lifted (os : Os) (started : os.Started) (H : Type) (enc : TypeId × Value → H) :
    ReturnsInHanded {} Try.checked os 6 .any (Rows.fairTurnsSpec.pre6 enc Try.prog Try.f6 Rows.fairTurnsRow.domain false) (Rows.fairTurnsSpec.post enc Try.prog Try.f6 false true false false) := by
  refine returnsInHanded_of_change (C := Try.checked) (by kernel_rfl) started (by kernel_rfl) Try.func6
    (ChangeSpec.witness6 (enc := enc) (C := Try.checked) false ⟨#[], #[.int .i64 0, .int .u8 0], []⟩ 8 (by kernel_rfl) (by kernel_rfl) (by kernel_rfl) (by kernel_rfl)) ?_
  intro W base args ds gs before hval0 hW hcnd _
  have hval : ∀ (j : Nat) t v, Try.f6.params[j]? = some t → args[j]? = some v → Value.okWide Try.prog W .any base t v := hval0
  have hW' := hW
  obtain ⟨p, q, hA0, hV, rfl, hfz, hnd⟩ := hW
  have hA : DataW.TrodAll enc Try.prog W 0 (fun _ => true) true Try.f6.params.toList args.toList ds p := hA0
  rw [Try.params6] at hA hval
  obtain ⟨v0, vs0, d0, ds0, p0, q0, hargs, rfl, rfl, h0, r0⟩ := trodAll_cons hA
  obtain ⟨v1, vs1, d1, ds1, p1, q1, rfl, rfl, rfl, h1, r1⟩ := trodAll_cons r0
  obtain ⟨rfl, rfl, rfl⟩ := trodAll_nil r1
  obtain rfl : args = #[v0, v1] := by cases args; simp_all
  obtain ⟨rfl, rfl⟩ := trodVars_none hV
  obtain ⟨a0, rfl, rfl, rfl, w0⟩ := open_int Try.underlying3 (hval 0 3 v0 rfl rfl) h0
  obtain ⟨a1, rfl, rfl, rfl, w1⟩ := open_int Try.underlying5 (hval 1 5 v1 rfl rfl) h1
  clear hA0 hval0
  refine (fairTurns_walk a0 a1 W w0 w1).mono fun e W' ⟨he, bel⟩ => ?_
  subst he
  exact ⟨_, rfl, _, _, _, [], _, [], hW', trodAll_mk1 (shut_bool Try.underlying4 _), (trodAll_cons_mk (shut_int Try.underlying3 w0) (trodAll_cons_mk (shut_int Try.underlying5 w1) trodAll_mk0)), rfl, bel.frame _, fun h => by cases h⟩

theorem fairTurns_holds : Rows.FairTurnsSaid :=
  OpenClaim.holds_of_wide 6 Try.f6 rfl rfl rfl rfl rfl rfl rfl ⟨rfl, rfl, rfl, rfl, rfl⟩ rfl rfl rfl rfl rfl (by kernel_rfl) Try.func6 (by kernel_rfl)
    (of_decide_eq_true (by kernel_rfl)) (by unfold Func.isWrapper; first | (rw [if_pos (by decide +kernel)]; kernel_rfl) | (rw [if_neg (by decide +kernel)]; exact ⟨rfl, rfl⟩))
    (fun os started H enc _ => fairTurns_lifted os started H enc)
#print axioms fairTurns_holds
end Go.Proofs.Yteapkajebhkjcaa
