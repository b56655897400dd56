/- Touch, Drop, New. -/
import Derived.Test.YtmlklmhochihbaaHtOf
namespace Go.Proofs.Ytmlklmhochihbaa
open Go.RowKit

theorem exec_add {P : Program} {w w' : World} {o : Oper} {ρ : Operand → Value} {t t2 : TypeId} {x y : Operand} {u v r : Value} (ho : o.op = .binOp .add t x y t2) (hx : ρ x = u) (hy : ρ y = v) (h : (binOp .add t u v).run P w = .ok r w') : (execOp ρ o).run P w = .ok (.value r) w' := by
  have e : (eqGuard .add t x y u v).run P w = .ok () w := rfl
  unfold execOp
  simp only [ho, hx, hy, Sem.run_bind, e, Result.andThen_ok, h, Sem.run_pure]
theorem touch_nil (w : World) (K : Int) (y : Nat) : Calls Try.prog 49 #[.pointer none, .int .i64 K, .float .f64 y] w fun e w' => e = .returned (.tuple #[]) ∧ w' = w := by
  go_enter Try.func49, Try.ntmps49
  go_wp2_with fail
  refine Calls.mono (made_nil w) ?_
  rintro e w' ⟨rfl, rfl⟩
  go_wp2
  exact bodyPost_ret (results_none rfl _ _ _) rfl ⟨rfl, rfl⟩
theorem drop_nil (w : World) (K : Int) : Calls Try.prog 45 #[.pointer none, .int .i64 K] w fun e w' => e = .returned (.tuple #[]) ∧ w' = w := by
  go_enter Try.func45, Try.ntmps45
  go_wp2_with fail
  refine Calls.mono (made_nil w) ?_
  rintro e w' ⟨rfl, rfl⟩
  go_wp2
  go_end0
  exact ⟨rfl, rfl⟩
section
variable {w w' : World} {gh gm half now : Nat} {T : Tb} {R : Nat → Prop}
/-- What a call on a heat leaves. -/
structure HtTo (w : World) (gh gm half now : Nat) (T : Tb) (w' : World) : Prop where
  ht : HtM w' gh gm half now T
  but : But (fun b => b = gh ∨ b = gm) w w'
theorem HtTo.grow {w'' : World} (h : HtTo w gh gm half now T w') (k : Grow w' w'') : HtTo w gh gm half now T w'' := ⟨h.ht.grow k, h.but.trans (k.mono (fun _ _ h => h.elim))⟩
/-- The time goes on. -/
theorem HtM.on (h : HtM w gh gm half now T) (hn : now < 1000000) : HtM (w.setCell ⟨gh, 1, none⟩ (.int .i64 ((now + 1 : Nat) : Int))) gh gm half (now + 1) T := by
  obtain ⟨M, h3, h4, h5⟩ := h.map
  exact ⟨h.blk.set 1 _, ⟨M, h3.but (But.set1 _ _ _ _) (fun e => h.ne e.symm), h4, h5⟩, h.h1, h.h2, by omega, h.ok.on⟩
/-- A key is put. -/
theorem HtM.put (h : HtM w gh gm half now T) {K : Int} (hK : i64 K) {x : Nat} (hx : x < 18446744073709551616) : ∃ w', (Instr.mapUpdate 108 (.map (some gm)) (.int .i64 K) (tol x now)).run Try.prog w = .ok () w' ∧ HtM w' gh gm half now (tput T K x now) ∧ But (· = gm) w w' := by
  obtain ⟨M, h3, h4, h5⟩ := h.map
  obtain ⟨w', M', hr, hM, hb, -, hin, hot⟩ := h3.put (t := 108) (et := 113) (v := tol x now) keyIa Try.underlying108 (keyOfIa K hK)
  refine ⟨w', hr, ⟨h.blk.but hb h.ne, ⟨M', hM, fun p hp => ?_, fun K' b t e => ?_⟩, h.h1, h.h2, h.nw, ⟨fun k b t e => ?_⟩⟩, hb⟩
  · by_cases hk : p.1 = .int .i64 K
    · have hpv : p.2 = tol x now := hM.uniq (k := .int .i64 K) (by rw [← hk]; exact hp) hin
      exact ⟨K, x, now, by rw [← hk, ← hpv], by unfold tput; rw [if_pos rfl]⟩
    · obtain ⟨K', b, t, e, e2⟩ := h4 p ((hot p.1 p.2 hk).1 hp)
      refine ⟨K', b, t, e, ?_⟩
      unfold tput
      rw [if_neg (fun e3 => hk (by rw [e, e3]))]
      exact e2
  · unfold tput at e
    split at e
    · rename_i e2
      cases e
      rw [e2]; exact hin
    · rename_i e2
      refine (hot _ _ (fun e3 => e2 ?_)).2 (h5 K' b t e)
      simpa using e3
  · unfold tput at e
    split at e
    · cases e; exact ⟨hx, Nat.le_refl _⟩
    · exact h.ok.lt k b t e
theorem HtM.del (h : HtM w gh gm half now T) {K : Int} (hK : i64 K) (ty : TypeId) : ∃ w', (Builtin.delete_ #[108, 3] ty #[.map (some gm), .int .i64 K]).run Try.prog w = .ok (.tuple #[]) w' ∧ HtM w' gh gm half now (tdrop T K) ∧ But (· = gm) w w' := by
  obtain ⟨M, h3, h4, h5⟩ := h.map
  obtain ⟨w', M', hr, hM, hb, -, hot⟩ := h3.del (t := 108) (et := 113) keyIa Try.underlying108 (keyOfIa K hK) ty
  refine ⟨w', hr, ⟨h.blk.but hb h.ne, ⟨M', hM, fun p hp => ?_, fun K' b t e => ?_⟩, h.h1, h.h2, h.nw, h.ok.drop K⟩, hb⟩
  · obtain ⟨h6, h7⟩ := (hot p.1 p.2).1 hp
    obtain ⟨K', b, t, e, e2⟩ := h4 p h6
    refine ⟨K', b, t, e, ?_⟩
    unfold tdrop
    rw [if_neg (fun e3 => h7 (by rw [e, e3]))]
    exact e2
  · unfold tdrop at e
    split at e
    · cases e
    · rename_i e2
      exact (hot _ _).2 ⟨h5 K' b t e, fun e3 => e2 (by simpa using e3)⟩
set_option maxRecDepth 100000 in
set_option maxHeartbeats 1000000 in
theorem touch_any (h : HtM w gh gm half now T) {K : Int} (hK : i64 K) {y : Nat} (hn : now < 1000000) : Calls Try.prog 49 #[.pointer (some ⟨gh, 0, none⟩), .int .i64 K, .float .f64 y] w fun e w' => e = .returned (.tuple #[]) ∧ HtTo w gh gm half (now + 1) (ttouch half now T K y) w' := by
  have HM := Hid.mk' (made_any h)
  have HH1 := Hid.mk' (h.on hn)
  have HKK := Hid.mk' hK
  have HB1 : Hid (But (fun b => b = gh ∨ b = gm) w (w.setCell ⟨gh, 1, none⟩ (.int .i64 ((now + 1 : Nat) : Int)))) := (But.set1 w gh 1 _).mono (fun b _ e => .inl e)
  have c1 : w.cell? ⟨gh, 1, none⟩ = some (.int .i64 (now : Int)) := h.blk.cell 1
  have f1 : w.frozen? ⟨gh, 1, none⟩ = false := h.blk.free 1
  have hw1 : IntKind.i64.wrap ((now : Int) + 1) = ((now + 1 : Nat) : Int) := by have := wrapN (now + 1) (by omega); push_cast at this ⊢; exact this
  have e1 : (now : Int) + 1 = ((now + 1 : Nat) : Int) := by push_cast; rfl
  have e2 : ((now + 1 : Nat) : Int) ≤ 1000000 := by omega
  clear h hK hn
  obtain ⟨n1, hn1⟩ : ∃ n1, n1 = now + 1 := ⟨_, rfl⟩
  rw [← hn1] at HH1 HB1 hw1 e1 e2
  have HN1 := Hid.mk' hn1
  clear hn1
  go_enter Try.func49, Try.ntmps49
  go_wp2_with fail
  refine Calls.mono HM.out ?_
  rintro e w' ⟨rfl, hw⟩
  have h2 := hw.symm
  subst h2
  clear hw HM
  go_upto_region 2 with fail
  clear c1 f1 e1 hw1 e2
  generalize w.setCell ⟨gh, 1, none⟩ (.int .i64 (n1 : Int)) = w1 at *
  have HO : Hid (∀ x, Grow w1 x → Calls Try.prog 63 #[.pointer (some ⟨gh, 0, none⟩), .int .i64 K] x fun e w' => e = .returned (.float .f64 (hof half n1 T K)) ∧ Grow x w') := fun x k => of_any (HH1.out.grow k) HKK.out
  obtain ⟨f, hf⟩ : ∃ f, f = hof half n1 T K := ⟨_, rfl⟩
  rw [← hf] at HO
  have HF := Hid.mk' hf
  clear hf
  refine region_chain [([0, 1, 2, 3, 4, 5, 6, 7, 8, 11, 12, 13, 14], 9), ([10, 15], 16)] [] (Grow w1) (Grow w1) (by kernel_rfl) (by kernel_rfl) (fun _ _ h k => h.trans k) (fun _ h => h) ((But.refl _ w1).drew) ?_
  intro ι hne X hX
  have d1 : ∀ x, (X x).cell? ⟨gh, 1, none⟩ = some (.int .i64 (n1 : Int)) := fun x => ((HH1.out.grow (hX x)).blk).cell 1
  have d2 : ∀ x, (X x).cell? ⟨gh, 2, none⟩ = some (.map (some gm)) := fun x => ((HH1.out.grow (hX x)).blk).cell 2
  iterate 7 (refine still_step rfl (fun K hK => ?_); go_simp; refine hK _ ?_; clear hK K)
  refine still_call rfl (.float .f64 f) 63 #[.pointer (some ⟨gh, 0, none⟩), .int .i64 K] rfl (fun x => by kernel_rfl) (fun x => HO.out _ (hX x)) ?_
  intro K hK; go_simp; refine hK _ ?_; clear hK K
  iterate 5 (refine still_step rfl (fun K hK => ?_); go_simp; refine hK _ ?_; clear hK K)
  refine still_nil ?_
  clear d1 d2 hX hne X ι
  refine turn_run rfl rfl (fun v w' => Grow w1 w' ∧ ∃ r, v = .float .f64 r ∧ r < 18446744073709551616 ∧ rt r = radd f y) (fun v w' => Grow w1 w' ∧ ∃ r, v = .float .f64 r ∧ r < 18446744073709551616 ∧ rt r = radd f y) (fun _ _ _ h k => ⟨h.1.trans k, h.2⟩) (fun _ _ h => h) (.inr (fun _ _ h => h.1)) ?_ ?_
  · intro w4 h4
    obtain ⟨r, w5, hr, h1, h2, h3⟩ := add_run 32 f y w4
    refine ⟨.float .f64 r, w5, .inl (exec_add rfl rfl rfl hr), h4.trans ?_, r, rfl, h1, h2⟩
    rcases h3 with rfl | rfl
    · exact But.refl _ _
    · exact (But.refl _ w4).drew
  rintro v5 ⟨w5, -, r, rfl, hr1, hr2⟩ Y hY
  have HR := Hid.mk' (fun w => right_any r w hr1)
  rw [hr2] at HR
  have HX := Hid.mk' (radd_lt f y)
  clear hr1 hr2
  generalize hx5 : radd f y = x5 at *
  have HX5 := Hid.mk' hx5
  clear hx5
  go_simp
  refine hY _ ?_
  clear hY Y w5
  intro ι hne X hX
  refine still_call rfl (.float .f64 x5) 62 #[.float .f64 r] rfl (fun x => by kernel_rfl) (fun x => (HR.out (X x)).mono (fun e w' h => ⟨h.1, by rw [h.2]; exact But.refl _ _⟩)) ?_
  intro K hK; go_simp; refine hK _ ?_; clear hK K
  iterate 1 (refine still_step rfl (fun K hK => ?_); go_simp; refine hK _ ?_; clear hK K)
  refine still_nil ?_
  clear hX hne X ι
  refine turn_run rfl rfl (fun _ w' => HtTo w gh gm half n1 (tput T K x5 n1) w') (fun _ _ => True) (fun _ _ _ h k => h.grow k) (fun _ _ _ => trivial) (.inl (by kernel_rfl)) ?_ ?_
  · rintro w4 ⟨h4, -⟩
    obtain ⟨w6, h5, h6, h7⟩ := (HH1.out.grow h4).put HKK.out HX.out
    exact turn_put rfl rfl rfl rfl h5 ⟨h6, (HB1.out.trans (h4.mono (fun _ _ h => h.elim))).trans (h7.mono (fun _ _ e => .inr e))⟩
  rintro v5 - Y hY
  go_simp
  refine hY _ ?_
  clear hY Y
  intro ι hne X hX
  refine still_nil ?_
  clear hX hne
  intro w6 hw6
  have HW6 := Hid.mk' hw6
  clear hw6
  go_wp2
  go_end0
  refine ⟨rfl, ?_⟩
  have h8 := HW6.out
  rw [← HX5.out, HF.out, HN1.out] at h8
  exact h8
end
end Go.Proofs.Ytmlklmhochihbaa
