/- Both rows in one memory; an act on both; the acts that came in. -/
import Derived.Test.YtidblaepklgkcaaFaRefNext
import Derived.Test.YtidblaepklgkcaaPickAny
import Derived.Test.YtidblaepklgkcaaRws
import Derived.Test.YtidblaepklgkcaaFloatView
namespace Go.Proofs.Ytidblaepklgkcaa
open Go.ChangeShapes Go.WideShapes Go.ChangeAt Go.RowKit Go.Deep

/-- Both rows hold the same tasks. -/
structure Fx (w0 w : World) (g gt gx gy cap : Nat) (T : List Sh) : Prop where
  fl : Fl w0 w g gt T
  rr : Rr w gx gy cap T
  xg : gx ≠ g
  xt : gx ≠ gt
  yg : gy ≠ g
  yt : gy ≠ gt
  nx : w0.heap.size ≤ gx
  ny : w0.heap.size ≤ gy
structure FA where
  kind : Int
  task : Int
  y : Nat
def fac (a : FA) : List Value := [.int .i64 a.kind, .int .i64 a.task, .float .f64 a.y]
def FA.ok (a : FA) : Prop := i64 a.kind ∧ i64 a.task ∧ a.y < 18446744073709551616
abbrev FActs (w : World) (v : Value) (n : Nat) (A : Nat → FA) : Prop := Rws 3 fac FA.ok w v n A
theorem iFa : (Try.prog.info? 33).map (·.size) = some 3 := by kernel_rfl
section
variable {H : Type} {enc : TypeId × Value → H} {w : World} {base : Nat} {spare : Nat → Bool} {held : Bool}
theorem wfI {z : Int} (h : (Lit.int .i64 z).wf = true) : i64 z := by
  have h1 : IntKind.i64.min ≤ z ∧ z ≤ IntKind.i64.max := by simpa [Lit.wf, go_sem] using h
  exact h1
theorem FAst : Try.prog.underlying 33 = some (.struct #[⟨ "Kind", 3, 0, false, "", "", 0⟩, ⟨ "Task", 3, 1, false, "", "", 8⟩, ⟨ "W", 31, 2, false, "", "", 16⟩]) := by kernel_rfl
set_option maxRecDepth 100000 in
theorem trod_fa {m : Nat} {cs : List Value} {x : DataW H × List MemPlace} (h : DataW.trod enc Try.prog w base spare held m 33 cs = some x) (hl : cs.length = 3) : ∃ F : FA, cs = fac F ∧ F.ok := by
  obtain ⟨xs, nn, _, -, _, hxl, hf⟩ := DataW.trod_struct FAst h
  match xs, hxl with
  | [x0, x1, x2], _ =>
    have c3 : Try.prog.cellsOf 3 = 1 := by kernel_rfl
    have c32 : Try.prog.cellsOf 31 = 1 := by kernel_rfl
    have g0 : DataW.trod enc Try.prog w base spare held nn 3 ((cs.drop 0).take (Try.prog.cellsOf 3)) = some x0 := hf 0 _ rfl
    have g1 : DataW.trod enc Try.prog w base spare held nn 3 ((cs.drop 1).take (Try.prog.cellsOf 3)) = some x1 := hf 1 _ rfl
    have g2 : DataW.trod enc Try.prog w base spare held nn 31 ((cs.drop 2).take (Try.prog.cellsOf 31)) = some x2 := hf 2 _ rfl
    rw [c3] at g0 g1
    rw [c32] at g2
    match cs, hl with
    | [a0, a1, a2], _ =>
      have k0 : DataW.trod enc Try.prog w base spare held nn 3 [a0] = some x0 := g0
      have k1 : DataW.trod enc Try.prog w base spare held nn 3 [a1] = some x1 := g1
      have k2 : DataW.trod enc Try.prog w base spare held nn 31 [a2] = some x2 := g2
      obtain ⟨z0, e0, _, w0⟩ := DataW.trod_int Try.underlying3 k0
      obtain ⟨z1, e1, _, w1⟩ := DataW.trod_int Try.underlying3 k1
      obtain ⟨z2, e2, _, w2⟩ := trod_float Try.underlying31 k2
      simp only [List.cons.injEq, and_true] at e0 e1 e2
      refine ⟨⟨z0, z1, z2⟩, ?_, wfI w0, wfI w1, by simpa [Lit.wf] using w2⟩
      rw [e0, e1, e2]
      rfl
set_option maxRecDepth 100000 in
theorem view_racts15 {v : Value} {d : DataW H} {ps : List MemPlace} {r : Reach} {b0 : Nat} {ts : List TypeId} {ds : List (DataW H)} {j : Nat}
    (hval : Value.okWide Try.prog w r b0 22 v) (h : DataW.Trod enc Try.prog w base spare held 22 v d ps) (hlt : ∀ x ∈ ps, x.block < w.heap.size)
    (hsz : (DataW.weightsEach Try.prog ts ds).all (· ≤ reachBytes) = true) (ht : ts[j]? = some 22) (hd : ds[j]? = some d) : ∃ n A, FActs w v n A :=
  view_rows (⟨0, 0, 0⟩ : FA) Try.underlying22 (by kernel_rfl) (by decide) (of_decide_eq_true (by kernel_rfl)) (fun a h => by cases h) (fun m cs x h1 h2 => trod_fa h1 h2) hval h hlt hsz ht hd
end
section
variable {w0 w w' : World} {g gt gx gy cap : Nat} {T : List Sh}
theorem Fx.then (h : Fx w0 w g gt gx gy cap T) (k : Grow w w') : Fx w0 w' g gt gx gy cap T := ⟨h.fl.then k, h.rr.grow k, h.xg, h.xt, h.yg, h.yt, h.nx, h.ny⟩
theorem Fx.ygn (h : Fx w0 w g gt gx gy cap T) : ¬ g = gy := fun e => h.yg e.symm
theorem Fx.ytn (h : Fx w0 w g gt gx gy cap T) : ¬ gt = gy := fun e => h.yt e.symm
/-- What an act leaves. -/
def dact (T : List Sh) (a : FA) : List Sh := if a.kind % 9 = 0 then wgt T a.task a.y else if a.kind % 9 = 1 ∨ a.kind % 9 = 2 then wak T a.task else if a.kind % 9 = 3 then slp T a.task else if a.kind % 9 = 4 then T else nxS T
theorem fx_new {n : Nat} (h1 : Fl w0 w g gt (fresh n)) {e : Ending} (h2 : RnTo w n e w') : ∃ gx gy cap, e = .returned (ptr gx) ∧ Fx w0 w' g gt gx gy cap (fresh n) := by
  obtain ⟨gx, gy, cap, rfl, k1, k2, k3, k4⟩ := h2
  have l1 := h1.fr.b.row.lt
  have l2 := h1.fr.b.tsk.lt
  have s := h1.grow.size
  exact ⟨gx, gy, cap, rfl, h1.then k2, k1, by omega, by omega, by omega, by omega, by omega, by omega⟩
set_option maxRecDepth 100000 in
set_option maxHeartbeats 4000000 in
theorem do_any (h : Fx w0 w g gt gx gy cap T) {a : FA} (ha : a.ok) : Calls Try.prog 12 #[ptr g, ptr gx, .agg #[.int .i64 a.kind, .int .i64 a.task, .float .f64 a.y]] w fun e w' => e = .returned (.bool true) ∧ Fx w0 w' g gt gx gy cap (dact T a) := by
  obtain ⟨kd, tk, y⟩ := a
  obtain ⟨-, htk, hy⟩ := ha
  dsimp only at htk hy ⊢
  obtain ⟨ga, hga⟩ : ∃ ga, ga = w.heap.size := ⟨_, rfl⟩
  have k1 : Grow w (w.alloc (.cells #[.int .i64 kd, .int .i64 tk, .float .f64 y] 33)) := (But.refl _ _).alloc _
  have b1 : Blk (w.alloc (.cells #[.int .i64 kd, .int .i64 tk, .float .f64 y] 33)) ga 33 [.int .i64 kd, .int .i64 tk, .float .f64 y] := Blk.new (L := [.int .i64 kd, .int .i64 tk, .float .f64 y]) hga.symm
  have HSEP : Hid (¬ ga = gt ∧ ¬ ga = gy) := Hid.mk' ⟨fun e => by have := h.fl.fr.b.tsk.lt; omega, fun e => by
    obtain ⟨M, hM, -⟩ := h.rr.tsk.blk
    have := hM.lt
    omega⟩
  have HFX := Hid.mk' (h.then k1)
  have HBX := Hid.mk' b1
  have HGA := Hid.mk' hga
  have HTK := Hid.mk' htk
  have HY := Hid.mk' hy
  obtain ⟨m, hm⟩ : ∃ m, m = kd % 9 := ⟨_, rfl⟩
  have HP := Hid.mk' (pick_any kd 9 (w.alloc (.cells #[.int .i64 kd, .int .i64 tk, .float .f64 y] 33)) (by decide) (by decide))
  rw [← hm] at HP
  have hm0 : 0 ≤ m := by rw [hm]; exact Int.emod_nonneg _ (by decide)
  have hm9 : m < 9 := by rw [hm]; exact Int.emod_lt_of_pos _ (by decide)
  have a0 : (w.alloc (.cells #[.int .i64 kd, .int .i64 tk, .float .f64 y] 33)).cell? ⟨ga, 0, none⟩ = some (.int .i64 kd) := b1.cell 0
  rcases (by omega : m = 0 ∨ (m = 1 ∨ m = 2) ∨ m = 3 ∨ m = 4 ∨ (m ≠ 0 ∧ m ≠ 1 ∧ m ≠ 2 ∧ m ≠ 3 ∧ m ≠ 4)) with hc | hc | hc | hc | ⟨n0, n1, n2, n3, n4⟩
  · have HACT : Hid (dact T ⟨kd, tk, y⟩ = wgt T tk y) := Hid.mk' (by unfold dact; dsimp only; rw [← hm, hc, if_pos rfl])
    subst hc
    clear h k1 b1 hga htk hy hm hm0 hm9
    go_enter Try.func12, Try.ntmps12
    go_upto_region 1 with fail
    rw [← HGA.out]
    generalize w.alloc (.cells #[.int .i64 kd, .int .i64 tk, .float .f64 y] 33) = w1 at *
    go_wp2_with fail
    refine Calls.mono HP.out ?_
    rintro e w' ⟨rfl, hw⟩
    have h2 := hw.symm
    subst h2
    clear hw HP a0
    go_upto_region 3 with fail
    refine region_chain [([0, 1, 2, 3, 4, 6, 7, 8, 9, 10], 5), ([], 11)] [12, 13] (fun wz => Blk wz ga 33 [.int .i64 kd, .int .i64 tk, .float .f64 y]) (fun wz => Grow w1 wz) (by kernel_rfl) (by kernel_rfl) (fun _ _ h k => h.trans k) (fun _ h => HBX.out.but h (fun h => h)) ((But.refl _ w1).drew) ?_
    intro ι hne X hX
    have d1 : ∀ z, (X z).cell? ⟨ga, 1, none⟩ = some (.int .i64 tk) := fun z => (hX z).cell 1
    have d2 : ∀ z, (X z).cell? ⟨ga, 2, none⟩ = some (.float .f64 y) := fun z => (hX z).cell 2
    iterate 10 (refine still_step rfl (fun K hK => ?_); go_simp; refine hK _ ?_; clear hK K)
    refine still_nil ?_
    clear hX hne d1 d2 X ι
    refine turn_call rfl rfl (fun v wz => v = .int .i64 (cod T tk) ∧ Fl w0 wz g gt (wgt T tk y) ∧ But (· = gt) w1 wz) (fun _ wz => Blk wz ga 33 [.int .i64 kd, .int .i64 tk, .float .f64 y]) (fun _ _ _ h k => ⟨h.1, h.2.1.then k, h.2.2.trans (k.mono (fun _ _ h => h.elim))⟩) (fun _ _ h => HBX.out.but h.2.2 HSEP.out.1) (.inr (fun _ _ h => h)) 29 #[ptr g, .int .i64 tk, .float .f64 y] (fun _ => by kernel_rfl) ?_ ?_
    · intro wz hz
      refine (fl_weight (HFX.out.then hz).fl HY.out).mono ?_
      rintro e w' ⟨rfl, h1, h2⟩
      exact ⟨_, rfl, rfl, h1, (hz.mono (fun _ _ h => h.elim)).trans h2⟩
    rintro v ⟨wq, rfl, -⟩ Y hY
    clear wq
    go_simp
    refine hY _ ?_
    clear hY Y
    intro ι hne X hX
    refine still_nil ?_
    clear hX hne X ι
    refine turn_call rfl rfl (fun u wz => u = .int .i64 (cod T tk) ∧ Fx w0 wz g gt gx gy cap (wgt T tk y) ∧ Blk wz ga 33 [.int .i64 kd, .int .i64 tk, .float .f64 y]) (fun _ wz => Blk wz ga 33 [.int .i64 kd, .int .i64 tk, .float .f64 y]) (fun _ _ _ h k => ⟨h.1, h.2.1.then k, h.2.2.but k (fun h => h)⟩) (fun _ _ h => h.2.2) (.inr (fun _ _ h => h)) 30 #[ptr gx, .int .i64 tk, .float .f64 y] (fun _ => by kernel_rfl) ?_ ?_
    · rintro wz ⟨-, hz, hb⟩
      refine (rweight_any (HFX.out.rr.but hb HFX.out.xt HFX.out.yt) HY.out).mono ?_
      rintro e w' ⟨rfl, h1⟩
      exact ⟨_, rfl, rfl, ⟨⟨hz.fr.but h1.but HFX.out.ygn HFX.out.ytn, hz.grow.then h1.but (fun i hi e => by have := HFX.out.ny; omega), hz.ng, hz.nt⟩, h1.rr, HFX.out.xg, HFX.out.xt, HFX.out.yg, HFX.out.yt, HFX.out.nx, HFX.out.ny⟩, (HBX.out.but hb HSEP.out.1).but h1.but HSEP.out.2⟩
    rintro v2 ⟨wq, rfl, -⟩ Y hY
    clear wq
    go_simp
    refine hY _ ?_
    clear hY Y
    intro ι hne X hX
    iterate 2 (refine still_step rfl (fun K hK => ?_); go_simp; refine hK _ ?_; clear hK K)
    refine still_nil ?_
    clear hX hne X ι
    rintro w4 ⟨-, h4, -⟩
    have H4 := Hid.mk' h4
    clear h4
    go_wp2
    go_ret
    exact ⟨rfl, by rw [HACT.out]; exact H4.out⟩
  · have HACT : Hid (dact T ⟨kd, tk, y⟩ = wak T tk) := Hid.mk' (by
      unfold dact
      dsimp only
      rw [← hm, if_neg (by omega), if_pos hc])
    clear h k1 b1 hga htk hy hm hm0 hm9
    rcases hc with hc | hc
    all_goals
      subst hc
      go_enter Try.func12, Try.ntmps12
      go_upto_region 1 with fail
      rw [← HGA.out]
      generalize w.alloc (.cells #[.int .i64 kd, .int .i64 tk, .float .f64 y] 33) = w1 at *
      go_wp2_with fail
      refine Calls.mono HP.out ?_
      rintro e w' ⟨rfl, hw⟩
      have h2 := hw.symm
      subst h2
      clear hw HP a0
      go_upto_region 6 with fail
      refine region_chain [([0, 1, 2, 4, 5, 6], 3), ([], 7)] [8, 9] (fun wz => Blk wz ga 33 [.int .i64 kd, .int .i64 tk, .float .f64 y]) (fun wz => Grow w1 wz) (by kernel_rfl) (by kernel_rfl) (fun _ _ h k => h.trans k) (fun _ h => HBX.out.but h (fun h => h)) ((But.refl _ w1).drew) ?_
      intro ι hne X hX
      have d1 : ∀ z, (X z).cell? ⟨ga, 1, none⟩ = some (.int .i64 tk) := fun z => (hX z).cell 1
      have d2 : ∀ z, (X z).cell? ⟨ga, 2, none⟩ = some (.float .f64 y) := fun z => (hX z).cell 2
      iterate 6 (refine still_step rfl (fun K hK => ?_); go_simp; refine hK _ ?_; clear hK K)
      refine still_nil ?_
      clear hX hne d1 d2 X ι
      refine turn_call rfl rfl (fun v wz => v = .int .i64 (cod T tk) ∧ Fl w0 wz g gt (wak T tk) ∧ But (· = gt) w1 wz) (fun _ wz => Blk wz ga 33 [.int .i64 kd, .int .i64 tk, .float .f64 y]) (fun _ _ _ h k => ⟨h.1, h.2.1.then k, h.2.2.trans (k.mono (fun _ _ h => h.elim))⟩) (fun _ _ h => HBX.out.but h.2.2 HSEP.out.1) (.inr (fun _ _ h => h)) 31 #[ptr g, .int .i64 tk] (fun _ => by kernel_rfl) ?_ ?_
      · intro wz hz
        refine (fl_wake (HFX.out.then hz).fl).mono ?_
        rintro e w' ⟨rfl, h1, h2⟩
        exact ⟨_, rfl, rfl, h1, (hz.mono (fun _ _ h => h.elim)).trans h2⟩
      rintro v ⟨wq, rfl, -⟩ Y hY
      clear wq
      go_simp
      refine hY _ ?_
      clear hY Y
      intro ι hne X hX
      refine still_nil ?_
      clear hX hne X ι
      refine turn_call rfl rfl (fun u wz => u = .int .i64 (cod T tk) ∧ Fx w0 wz g gt gx gy cap (wak T tk) ∧ Blk wz ga 33 [.int .i64 kd, .int .i64 tk, .float .f64 y]) (fun _ wz => Blk wz ga 33 [.int .i64 kd, .int .i64 tk, .float .f64 y]) (fun _ _ _ h k => ⟨h.1, h.2.1.then k, h.2.2.but k (fun h => h)⟩) (fun _ _ h => h.2.2) (.inr (fun _ _ h => h)) 32 #[ptr gx, .int .i64 tk] (fun _ => by kernel_rfl) ?_ ?_
      · rintro wz ⟨-, hz, hb⟩
        refine (rwake_any (HFX.out.rr.but hb HFX.out.xt HFX.out.yt)).mono ?_
        rintro e w' ⟨rfl, h1⟩
        exact ⟨_, rfl, rfl, ⟨⟨hz.fr.but h1.but HFX.out.ygn HFX.out.ytn, hz.grow.then h1.but (fun i hi e => by have := HFX.out.ny; omega), hz.ng, hz.nt⟩, h1.rr, HFX.out.xg, HFX.out.xt, HFX.out.yg, HFX.out.yt, HFX.out.nx, HFX.out.ny⟩, (HBX.out.but hb HSEP.out.1).but h1.but HSEP.out.2⟩
      rintro v2 ⟨wq, rfl, -⟩ Y hY
      clear wq
      go_simp
      refine hY _ ?_
      clear hY Y
      intro ι hne X hX
      iterate 2 (refine still_step rfl (fun K hK => ?_); go_simp; refine hK _ ?_; clear hK K)
      refine still_nil ?_
      clear hX hne X ι
      rintro w4 ⟨-, h4, -⟩
      have H4 := Hid.mk' h4
      clear h4
      go_wp2
      go_ret
      exact ⟨rfl, by rw [HACT.out]; exact H4.out⟩
  · have HACT : Hid (dact T ⟨kd, tk, y⟩ = slp T tk) := Hid.mk' (by
      unfold dact
      dsimp only
      rw [← hm, if_neg (by omega), if_neg (by omega), if_pos hc])
    subst hc
    clear h k1 b1 hga htk hy hm hm0 hm9
    go_enter Try.func12, Try.ntmps12
    go_upto_region 1 with fail
    rw [← HGA.out]
    generalize w.alloc (.cells #[.int .i64 kd, .int .i64 tk, .float .f64 y] 33) = w1 at *
    go_wp2_with fail
    refine Calls.mono HP.out ?_
    rintro e w' ⟨rfl, hw⟩
    have h2 := hw.symm
    subst h2
    clear hw HP a0
    go_upto_region 8 with fail
    refine region_chain [([0, 1, 2, 4, 5, 6], 3), ([], 7)] [8, 9] (fun wz => Blk wz ga 33 [.int .i64 kd, .int .i64 tk, .float .f64 y]) (fun wz => Grow w1 wz) (by kernel_rfl) (by kernel_rfl) (fun _ _ h k => h.trans k) (fun _ h => HBX.out.but h (fun h => h)) ((But.refl _ w1).drew) ?_
    intro ι hne X hX
    have d1 : ∀ z, (X z).cell? ⟨ga, 1, none⟩ = some (.int .i64 tk) := fun z => (hX z).cell 1
    have d2 : ∀ z, (X z).cell? ⟨ga, 2, none⟩ = some (.float .f64 y) := fun z => (hX z).cell 2
    iterate 6 (refine still_step rfl (fun K hK => ?_); go_simp; refine hK _ ?_; clear hK K)
    refine still_nil ?_
    clear hX hne d1 d2 X ι
    refine turn_call rfl rfl (fun v wz => v = .int .i64 (cod T tk) ∧ Fl w0 wz g gt (slp T tk) ∧ But (· = gt) w1 wz) (fun _ wz => Blk wz ga 33 [.int .i64 kd, .int .i64 tk, .float .f64 y]) (fun _ _ _ h k => ⟨h.1, h.2.1.then k, h.2.2.trans (k.mono (fun _ _ h => h.elim))⟩) (fun _ _ h => HBX.out.but h.2.2 HSEP.out.1) (.inr (fun _ _ h => h)) 33 #[ptr g, .int .i64 tk] (fun _ => by kernel_rfl) ?_ ?_
    · intro wz hz
      refine (fl_sleep (HFX.out.then hz).fl).mono ?_
      rintro e w' ⟨rfl, h1, h2⟩
      exact ⟨_, rfl, rfl, h1, (hz.mono (fun _ _ h => h.elim)).trans h2⟩
    rintro v ⟨wq, rfl, -⟩ Y hY
    clear wq
    go_simp
    refine hY _ ?_
    clear hY Y
    intro ι hne X hX
    refine still_nil ?_
    clear hX hne X ι
    refine turn_call rfl rfl (fun u wz => u = .int .i64 (cod T tk) ∧ Fx w0 wz g gt gx gy cap (slp T tk) ∧ Blk wz ga 33 [.int .i64 kd, .int .i64 tk, .float .f64 y]) (fun _ wz => Blk wz ga 33 [.int .i64 kd, .int .i64 tk, .float .f64 y]) (fun _ _ _ h k => ⟨h.1, h.2.1.then k, h.2.2.but k (fun h => h)⟩) (fun _ _ h => h.2.2) (.inr (fun _ _ h => h)) 34 #[ptr gx, .int .i64 tk] (fun _ => by kernel_rfl) ?_ ?_
    · rintro wz ⟨-, hz, hb⟩
      refine (rsleep_any (HFX.out.rr.but hb HFX.out.xt HFX.out.yt)).mono ?_
      rintro e w' ⟨rfl, h1⟩
      exact ⟨_, rfl, rfl, ⟨⟨hz.fr.but h1.but HFX.out.ygn HFX.out.ytn, hz.grow.then h1.but (fun i hi e => by have := HFX.out.ny; omega), hz.ng, hz.nt⟩, h1.rr, HFX.out.xg, HFX.out.xt, HFX.out.yg, HFX.out.yt, HFX.out.nx, HFX.out.ny⟩, (HBX.out.but hb HSEP.out.1).but h1.but HSEP.out.2⟩
    rintro v2 ⟨wq, rfl, -⟩ Y hY
    clear wq
    go_simp
    refine hY _ ?_
    clear hY Y
    intro ι hne X hX
    iterate 2 (refine still_step rfl (fun K hK => ?_); go_simp; refine hK _ ?_; clear hK K)
    refine still_nil ?_
    clear hX hne X ι
    rintro w4 ⟨-, h4, -⟩
    have H4 := Hid.mk' h4
    clear h4
    go_wp2
    go_ret
    exact ⟨rfl, by rw [HACT.out]; exact H4.out⟩
  · have HACT : Hid (dact T ⟨kd, tk, y⟩ = T) := Hid.mk' (by
      unfold dact
      dsimp only
      rw [← hm, if_neg (by omega), if_neg (by omega), if_neg (by omega), if_pos hc])
    subst hc
    clear h k1 b1 hga htk hy hm hm0 hm9
    go_enter Try.func12, Try.ntmps12
    go_upto_region 1 with fail
    rw [← HGA.out]
    generalize w.alloc (.cells #[.int .i64 kd, .int .i64 tk, .float .f64 y] 33) = w1 at *
    go_wp2_with fail
    refine Calls.mono HP.out ?_
    rintro e w' ⟨rfl, hw⟩
    have h2 := hw.symm
    subst h2
    clear hw HP a0
    have a1 : w1.cell? ⟨ga, 1, none⟩ = some (.int .i64 tk) := HBX.out.cell 1
    have HPK := Hid.mk' (pickr_any HFX.out.fl.fr HTK.out)
    have hl8 : (awN T).length ≤ 8 := Nat.le_trans (awU_len _ _) HFX.out.fl.fr.ok.n8
    have HL8 := Hid.mk' hl8
    clear hl8
    unfold pck at HPK
    go_wp2_with fail
    refine Calls.mono HPK.out ?_
    rintro e w2 ⟨rfl, h2⟩
    have HG2 := Hid.mk' h2
    have HRA := Hid.mk' (rawake_list (HFX.out.then h2).rr)
    have hb2 := HBX.out.but h2 (fun h => h)
    have HB2 := Hid.mk' hb2
    clear h2 hb2 HPK a1
    cases hA : awN T with
    | nil =>
      rw [hA] at HRA
      go_wp2_with fail
      refine Calls.mono HRA.out ?_
      rintro e w3 ⟨v, rfl, hrow, -, hg3⟩
      obtain ⟨va, vc, e1⟩ := own_sl hrow
      have e2 : v = .slice va 0 vc := e1
      subst e2
      have H4 := Hid.mk' (HFX.out.then (HG2.out.trans hg3))
      clear hrow hg3 e1
      go_wp2
      go_ret
      exact ⟨rfl, by rw [HACT.out]; exact H4.out⟩
    | cons a l =>
      rw [hA] at HRA HL8
      obtain ⟨n, hn⟩ : ∃ n, n = (a :: l).length := ⟨_, rfl⟩
      have hn0 : 0 < n := by rw [hn]; simp
      have hn8 : n ≤ 8 := by rw [hn]; exact HL8.out
      rw [← hn]
      have HN := Hid.mk' hn
      obtain ⟨r, hr⟩ : ∃ r : Nat, (r : Int) = tk % (n : Int) := ⟨(tk % (n : Int)).toNat, by have := Int.emod_nonneg tk (b := (n : Int)) (by omega); omega⟩
      have hrm : r < n := by have := Int.emod_lt_of_pos tk (b := (n : Int)) (by omega); omega
      rw [← hr, Int.toNat_natCast]
      obtain ⟨q, hq⟩ : ∃ q, q = (ints (a :: l)).getD r 0 := ⟨_, rfl⟩
      rw [← hq]
      have HQ := Hid.mk' hq
      have HRM := Hid.mk' hrm
      have hni : ((n : Int) == 0) = false := by rw [beq_eq_false_iff_ne]; omega
      have hnb : (n : Int) ≤ 8 := by omega
      have hn1 : (0 : Int) < (n : Int) := by omega
      have hrb : (r : Int) < (n : Int) := by omega
      have HPC : Hid (∀ wz : World, Calls Try.prog 9 #[.int .i64 tk, .int .i64 (n : Int)] wz fun e w' => e = .returned (.int .i64 (r : Int)) ∧ w' = wz) := fun wz => by
        have := pick_any tk (n : Int) wz (by omega) (by omega)
        rw [← hr] at this
        exact this
      have hqq : (q == q) = true := by simp
      clear hn hr hq hrm hn0 hn8
      go_wp2_with fail
      refine Calls.mono HRA.out ?_
      rintro e w3 ⟨v, rfl, hrow, -, hg3⟩
      obtain ⟨b, cp, e1, hcell⟩ := row_cell (e := 3) (L := numv (ints (a :: l))) (by rw [show (numv (ints (a :: l))).length = (ints (a :: l)).length from List.length_map ..]; exact hrow) (by simp [numv, ints])
      rw [show (numv (ints (a :: l))).length = n by rw [show (numv (ints (a :: l))).length = (ints (a :: l)).length from List.length_map .., ints_len, HN.out]] at e1
      subst e1
      have hcq : w3.cell? ⟨b, r, none⟩ = some (.int .i64 q) := hcell r _ (by
        have hrl : r < (ints (a :: l)).length := by rw [ints_len, ← HN.out]; exact HRM.out
        rw [HQ.out]
        unfold numv
        rw [List.getElem?_map, List.getElem?_eq_getElem hrl, List.getD_eq_getElem?_getD, List.getElem?_eq_getElem hrl]
        rfl)
      have a1 : w3.cell? ⟨ga, 1, none⟩ = some (.int .i64 tk) := (HB2.out.but hg3 (fun h => h)).cell 1
      have H4 := Hid.mk' (HFX.out.then (HG2.out.trans hg3))
      clear hrow hg3 hcell HRA
      go_wp2_with fail
      refine Calls.mono (HPC.out _) ?_
      rintro e w' ⟨rfl, hw⟩
      have h2 := hw.symm
      subst h2
      clear hw
      go_wp2
      go_ret
      exact ⟨rfl, by rw [HACT.out]; exact H4.out⟩
  · have HACT : Hid (dact T ⟨kd, tk, y⟩ = nxS T) := Hid.mk' (by
      unfold dact
      dsimp only
      rw [← hm, if_neg n0, if_neg (by omega), if_neg n3, if_neg n4])
    have q0 : (m == 0) = false := by simpa using n0
    have q1 : (m == 1) = false := by simpa using n1
    have q2 : (m == 2) = false := by simpa using n2
    have q3 : (m == 3) = false := by simpa using n3
    have q4 : (m == 4) = false := by simpa using n4
    clear h k1 b1 hga htk hy hm hm0 hm9 n0 n1 n2 n3 n4
    go_enter Try.func12, Try.ntmps12
    go_upto_region 1 with fail
    rw [← HGA.out]
    generalize w.alloc (.cells #[.int .i64 kd, .int .i64 tk, .float .f64 y] 33) = w1 at *
    go_wp2_with fail
    refine Calls.mono HP.out ?_
    rintro e w' ⟨rfl, hw⟩
    have h2 := hw.symm
    subst h2
    clear hw HP a0
    have HNX := Hid.mk' (fl_next HFX.out.fl)
    go_wp2_with fail
    refine Calls.mono HNX.out ?_
    rintro e w2 ⟨rfl, h2, hb⟩
    have H2 := Hid.mk' h2
    have HRX := Hid.mk' (rnext_any (HFX.out.rr.but hb HFX.out.xt HFX.out.yt))
    clear h2 hb HNX
    generalize hJ : (nxI T : Nat) = J at *
    generalize hE : (awN T).isEmpty = E at *
    go_wp2_with fail
    refine Calls.mono HRX.out ?_
    rintro e w3 ⟨rfl, h1⟩
    have hz := H2.out
    have H4 : Hid (Fx w0 w3 g gt gx gy cap (nxS T)) := ⟨⟨hz.fr.but h1.but HFX.out.ygn HFX.out.ytn, hz.grow.then h1.but (fun i hi e => by have := HFX.out.ny; omega), hz.ng, hz.nt⟩, h1.rr, HFX.out.xg, HFX.out.xt, HFX.out.yg, HFX.out.yt, HFX.out.nx, HFX.out.ny⟩
    have hjj : ((J : Int) == (J : Int)) = true := by simp
    clear h1 hz HRX H2 hJ hE
    cases E with
    | true =>
      go_wp2
      go_ret
      exact ⟨rfl, by rw [HACT.out]; exact H4.out⟩
    | false =>
      go_wp2
      go_ret
      exact ⟨rfl, by rw [HACT.out]; exact H4.out⟩
end
end Go.Proofs.Ytidblaepklgkcaa
