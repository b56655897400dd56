/- RefOpen, GcmComp, SameM, GcmCtr, GcmTag, GcmMask, GcmNew, GcmSeal, GcmProg, GcmAwake, GcmFrame, GcmTurnMath, Picks. -/
import Derived.Test.YthmjdebnjcopnaaAllF
import Derived.Test.YthmjdebnjcopnaaAllC
import Derived.Test.YthmjdebnjcopnaaAllB
import Derived.Test.YthmjdebnjcopnaaAllA
import Derived.Test.YthmjdebnjcopnaaAllE
import Derived.Test.YthmjdebnjcopnaaAllD
import Derived.ProofKit
import Derived.OpenShut
import Derived.ChangeOld
import Derived.Below
import Derived.Deep.Cut
/- The reference's gcm: Open. -/
namespace Go.Proofs.Ythmjdebnjcopnaa
open Go.RowKit

def gcode (W : List (List B8)) (nc : List B8) (aad s : List Nat) : Int := if s.length < 16 then 2 else if good W nc aad s = true then 0 else 10
def gplain (W : List (List B8)) (nc : List B8) (aad s : List Nat) : List Nat := if good W nc aad s = true then gturn W nc (s.take (s.length - 16)) else []
theorem gcode_short {W : List (List B8)} {nc : List B8} {aad s : List Nat} (h : s.length < 16) : gcode W nc aad s = 2 := if_pos h
theorem gplain_short {W : List (List B8)} {nc : List B8} {aad s : List Nat} (h : s.length < 16) : gplain W nc aad s = [] := by
  unfold gplain good
  rw [decide_eq_false (fun e => by omega)]; rfl
theorem gcode_good {W : List (List B8)} {nc : List B8} {aad s : List Nat} (h : good W nc aad s = true) : gcode W nc aad s = 0 := by
  have h1 : 16 ≤ s.length := (of_decide_eq_true h).1
  unfold gcode
  rw [if_neg (by omega), if_pos h]
theorem gplain_good {W : List (List B8)} {nc : List B8} {aad s : List Nat} (h : good W nc aad s = true) : gplain W nc aad s = gturn W nc (s.take (s.length - 16)) := if_pos h
theorem gcode_bad {W : List (List B8)} {nc : List B8} {aad s : List Nat} (h1 : ¬ s.length < 16) (h : good W nc aad s = false) : gcode W nc aad s = 10 := by
  unfold gcode
  rw [if_neg h1, h]; rfl
theorem gplain_bad {W : List (List B8)} {nc : List B8} {aad s : List Nat} (h : good W nc aad s = false) : gplain W nc aad s = [] := by
  unfold gplain; rw [h]; rfl
theorem run_slice_hi {w : World} {o : Oper} {ρ : Operand → Value} {x y : Operand} {T : TypeId} {u n v : Value} (ho : o.op = .slice T x none (some y) none) (hx : ρ x = u) (hy : ρ y = n) (hr : (Instr.sliceAt T u none (some n) none).run Try.prog w = .ok v w) :
    (execOp ρ o).run Try.prog w = .ok (.value v) w := by
  unfold execOp
  simp only [ho, hx, hy, Option.map_some, Option.map_none]
  simp only [Sem.run_bind, hr, Result.andThen_ok, Sem.run_pure]
theorem callTag (args : Array Value) (w : World) : (callFunc 32 args).run Try.prog w = .ok (.enter 32 args) w := by kernel_rfl
theorem callTurned (args : Array Value) (w : World) : (callFunc 31 args).run Try.prog w = .ok (.enter 31 args) w := by kernel_rfl
/-- What memory is amid Open. -/
structure OpI (w : World) (g : Nat) (v v1 v2 : Value) (nc : List B8) (xs s : List Nat) (W : List (List B8)) (wr : World) : Prop where
  key : Blk wr g 31 (keyV v)
  non : Blk wr (g + 1) 23 (u8s (nts nc))
  wds : Wr wr v W
  aad : Bs wr v1 xs
  txt : Bs wr v2 s
  but : But (fun _ => False) w wr
theorem OpI.then {w wr w' : World} {g : Nat} {v v1 v2 : Value} {nc : List B8} {xs s : List Nat} {W : List (List B8)} (i : OpI w g v v1 v2 nc xs s W wr) (k : But (fun _ => False) wr w') : OpI w g v v1 v2 nc xs s W w' :=
  ⟨i.key.but k (fun h => h), i.non.but k (fun h => h), i.wds.but k (fun _ _ h => h), i.aad.but k (fun _ _ _ h => h), i.txt.but k (fun _ _ _ h => h), i.but.trans k⟩
set_option maxRecDepth 100000 in
set_option maxHeartbeats 4000000 in
theorem ropen_any {w : World} {nc : List B8} {W : List (List B8)} {v v1 v2 : Value} {xs s : List Nat} (hn : nc.length = 12) (hW : Wr w v W) (hl : W.length = 44 ∨ W.length = 60) (h1 : Bs w v1 xs) (h2 : Bs w v2 s) (l1 : xs.length ≤ 10000) (l2 : s.length ≤ 10000) :
    Calls Try.prog 19 #[.agg (keyV v).toArray, .agg (u8s (nts nc)).toArray, v1, v2] w fun e w' => ∃ v', e = .returned (.tuple #[v', .int .i64 (gcode W nc xs s)]) ∧ Bs w' v' (gplain W nc xs s) ∧ But (fun _ => False) w w' := by
  have hz := zeroG
  obtain ⟨Z, hZ⟩ : ∃ Z, Z = (u8s (List.replicate 16 0)).toArray := ⟨_, rfl⟩
  rw [← hZ] at hz
  obtain ⟨C, hC⟩ : ∃ C, C = (u8s (nts nc)).toArray := ⟨_, rfl⟩
  obtain ⟨F, hF⟩ : ∃ F, F = (keyV v).toArray := ⟨_, rfl⟩
  rw [← hC, ← hF]
  obtain ⟨g, hg⟩ : ∃ g, g = w.heap.size := ⟨_, rfl⟩
  obtain ⟨W0, hW0⟩ : ∃ W0, W0 = ((w.alloc (.cells F 31)).alloc (.cells C 23)) := ⟨_, rfl⟩
  have al : ∀ (x : World) (o : Obj), But (fun _ => False) x (x.alloc o) := fun x o => (But.refl _ x).alloc o
  have hT0 : But (fun _ => False) w W0 := by rw [hW0]; exact (al _ _).alloc _
  have HI0 : Hid (OpI w g v v1 v2 nc xs s W W0) := by
    refine ⟨?_, ?_, hW.but hT0 (fun _ _ h => h), h1.but hT0 (fun _ _ _ h => h), h2.but hT0 (fun _ _ _ h => h), hT0⟩
    · rw [hW0, hF]; exact (Blk.new hg.symm).but (al _ _) (fun h => h)
    · rw [hW0, hC]; exact Blk.new (by simp [hg])
  obtain ⟨ao, c, rfl, hno, -⟩ := h2.gen
  obtain ⟨L, hL⟩ : ∃ L, L = s.length := ⟨_, rfl⟩
  rw [← hL] at l2 HI0 hno ⊢
  have HLS := Hid.mk' hL
  have HNO := Hid.mk' hno
  have HG := Hid.mk' hg
  have HN := Hid.mk' hn
  have HNN : Hid ((nts nc).length = 12) := by show _ = _; rw [nts_len]; exact hn
  have HL := Hid.mk' hl
  have HZ := Hid.mk' hZ
  have HW0 := Hid.mk' hW0
  have HF := Hid.mk' hF
  have HC := Hid.mk' hC
  have HT0 := Hid.mk' hT0
  clear hZ hC hF hn hW hl hW0 hT0 hg al h1 h2 hL hno
  by_cases hlt : L < 16
  · have hneg : (L : Int) - 16 < 0 := by omega
    rw [gcode_short (by rw [← HLS.out]; exact hlt), gplain_short (by rw [← HLS.out]; exact hlt)]
    go_enter Try.func19, Try.ntmps19
    go_wp2
    rw [← HW0.out]
    go_ret2
    exact ⟨_, rfl, Bs.nil _, HT0.out⟩
  · obtain ⟨m, hm⟩ : ∃ m, m = L - 16 := ⟨_, rfl⟩
    have hsub : (L : Int) - 16 = (m : Int) := by omega
    have hmL : m ≤ L := by omega
    have HM := Hid.mk' hm
    clear hm
    obtain ⟨t, ht⟩ : ∃ t, t = gtag W nc xs (s.take m) := ⟨_, rfl⟩
    obtain ⟨X, hX⟩ : ∃ X, X = (u8s (nts t)).toArray := ⟨_, rfl⟩
    have HtL : Hid (t.length = 16) := by show _ = _; rw [ht, gtag_len]
    have HtN : Hid ((nts t).length = 16) := by show _ = _; rw [nts_len]; exact HtL.out
    have hcut : ∀ w', Sem.run Try.prog (Instr.sliceAt 22 (.slice ao L c) none (some (.int .i64 (m : Int))) none) w' = .ok (.slice ao m c) w' := fun w' => run_slice_to HI0.out.txt hmL HLS.out.symm
    have HTG : Hid (∀ w', But (fun _ => False) W0 w' → Calls Try.prog 32 #[.agg F, .agg C, v1, .slice ao m c] w' fun e w'' => e = .returned (.agg X) ∧ But (fun _ => False) w' w'') := by
      intro w' hw'
      have i := HI0.out.then hw'
      rw [HF.out, HC.out, hX, ht]
      exact rtag_any HN.out i.wds HL.out i.aad (i.txt.front (by rw [← HLS.out]; exact hmL) (fun e => (HNO.out e).2)) l1 (by rw [List.length_take]; omega)
    have HXE := Hid.mk' hX
    have HtE := Hid.mk' ht
    clear ht hX
    go_enter Try.func19, Try.ntmps19
    go_upto_region 4 with fail
    rw [← HW0.out, ← HG.out]
    refine region_frame [some 17, some 18, some 19, some 20, some 21, some 22, some 23, some 11, none] (by kernel_rfl) [some (.agg F), some (.agg C), some v1, some (.slice ao L c), some (.int .i64 (m : Int)), some (.slice ao m c), some (.agg X), none, none] (PutC W0 t 7 8) (by kernel_rfl) (by kernel_rfl) (by kernel_rfl) (by kernel_rfl) (by kernel_rfl) (by kernel_rfl) ?_ ?_ ?_ ?_ ?_
    · intro f
      exact ⟨(But.refl _ W0).drew, nofun⟩
    · intro i v d f wx hu hC
      exact hC.keep v (by rintro rfl; cases hu) (by rintro rfl; cases hu)
    · intro ρ r0 r1 r2 j o u d f wx ho hu hdi hsh hC
      have E17 := r1 0 17 _ (by kernel_rfl) rfl
      have E18 := r1 1 18 _ (by kernel_rfl) rfl
      have E19 := r1 2 19 _ (by kernel_rfl) rfl
      have E20 := r1 3 20 _ (by kernel_rfl) rfl
      have E21 := r1 4 21 _ (by kernel_rfl) rfl
      have E22 := r1 5 22 _ (by kernel_rfl) rfl
      have O4 : ρ (.tmp 4) = .pointer (some ⟨g, 0, none⟩) := r2 4 (by kernel_rfl)
      have O5 : ρ (.tmp 5) = .pointer (some ⟨g + 1, 0, none⟩) := r2 5 (by kernel_rfl)
      have O2 : ρ (.tmp 2) = v1 := r2 2 (by kernel_rfl)
      have O3 : ρ (.tmp 3) = .slice ao L c := r2 3 (by kernel_rfl)
      have O10 : ρ (.tmp 10) = .int .i64 (m : Int) := r2 10 (by kernel_rfl)
      have h1 := hcut wx
      match j with
      | 0 =>
        simp only [List.getElem?_toArray, List.getElem?_cons_zero, Option.some.injEq] at ho
        subst ho
        obtain rfl := Option.some.inj hu
        rw [HF.out, run_load_key (HI0.out.then hC.but).key rfl O4]
        exact ⟨rfl, rfl⟩
      | 1 =>
        simp only [List.getElem?_toArray, List.getElem?_cons_succ, List.getElem?_cons_zero, Option.some.injEq] at ho
        subst ho
        obtain rfl := Option.some.inj hu
        rw [HC.out, run_load12 HNN.out (blk_add (HI0.out.then hC.but).non) rfl O5]
        exact ⟨rfl, rfl⟩
      | 2 =>
        simp only [List.getElem?_toArray, List.getElem?_cons_succ, List.getElem?_cons_zero, Option.some.injEq] at ho
        subst ho
        obtain rfl := Option.some.inj hu
        go_simp
      | 3 =>
        simp only [List.getElem?_toArray, List.getElem?_cons_succ, List.getElem?_cons_zero, Option.some.injEq] at ho
        subst ho
        obtain rfl := Option.some.inj hu
        go_simp
      | 4 =>
        simp only [List.getElem?_toArray, List.getElem?_cons_succ, List.getElem?_cons_zero, Option.some.injEq] at ho
        subst ho
        obtain rfl := Option.some.inj hu
        go_simp
      | 5 =>
        simp only [List.getElem?_toArray, List.getElem?_cons_succ, List.getElem?_cons_zero, Option.some.injEq] at ho
        subst ho
        obtain rfl := Option.some.inj hu
        go_simp
      | 6 =>
        simp only [List.getElem?_toArray, List.getElem?_cons_succ, List.getElem?_cons_zero, Option.some.injEq] at ho
        subst ho
        obtain rfl := Option.some.inj hu
        refine quiet_call 32 [_, _, _, _] _ #[.agg F, .agg C, v1, .slice ao m c] rfl (r0.2 _) (by simp [E17, E18, E19, E22]) (callTag _ _) ?_
        refine Calls.mono (HTG.out wx hC.but) ?_
        rintro e w2 ⟨rfl, hbut2⟩
        exact ⟨rfl, hC.then hbut2⟩
      | 7 => cases hu
      | 8 => cases hu
      | j + 9 => cases hu
    · intro j o d f a wx ho hu hdi hsh hw hC hsee
      match j with
      | 7 =>
        simp only [List.getElem?_toArray, List.getElem?_cons_succ, List.getElem?_cons_zero, Option.some.injEq] at ho
        subst ho
        have hd8 : d 8 = false := by
          cases hq : d 8 with
          | false => rfl
          | true =>
            have hh := hsh 8 _ 7 rfl (by kernel_rfl) hq
            rw [hdi] at hh; cases hh
        refine op_alloc 44 Z rfl (hz wx) ?_
        exact ⟨_, rfl, hC.made hd8 (by decide) Z HZ.out⟩
      | 8 =>
        simp only [List.getElem?_toArray, List.getElem?_cons_succ, List.getElem?_cons_zero, Option.some.injEq] at ho
        subst ho
        have hd7 := hw 7 (by kernel_rfl)
        obtain ⟨gx, e7, hgx, hb1, -⟩ := hC.al hd7
        have e23 := hsee.tab 6 23 _ (by kernel_rfl) (by kernel_rfl) rfl
        have e7' := (hsee.dep 7 11 (by kernel_rfl) (by kernel_rfl)).trans e7
        refine op_store_u8s i16g _ _ rfl gx (nts t) HtN.out e7' (by rw [e23, HXE.out]) _ (by simp [u8s]) (hb1 hdi) ?_
        intro w' hb' hbut'
        exact ⟨undef, rfl, hC.put (by decide) e7 hgx hb' hbut' _⟩
      | 0 => cases hu
      | 1 => cases hu
      | 2 => cases hu
      | 3 => cases hu
      | 4 => cases hu
      | 5 => cases hu
      | 6 => cases hu
      | j + 9 => cases ho
    · intro f w6 hC hval
      obtain ⟨gt, e7, hgt, -, hbx⟩ := hC.al rfl
      have HBX := Hid.mk' (hbx rfl)
      have HBU := Hid.mk' hC.but
      have v0 := hval 0 _ (by decide) rfl
      have v1' := hval 1 _ (by decide) rfl
      have v2' := hval 2 _ (by decide) rfl
      have v3 := hval 3 _ (by decide) rfl
      have v4 := hval 4 _ (by decide) rfl
      have v5 := hval 5 _ (by decide) rfl
      have v6 := hval 6 _ (by decide) rfl
      clear hC hval hgt hbx
      simp only [putL, e7, v0, v1', v2', v3, v4, v5, v6]
      clear e7 v0 v1' v2' v3 v4 v5 v6
      have HI6 := Hid.mk' (HI0.out.then HBU.out)
      clear HBU HTG HW0 HT0 HI0
      obtain ⟨b, hb⟩ : ∃ b, b = good W nc xs s := ⟨_, rfl⟩
      have hbd : decide (nts t = s.drop m) = b := by
        rw [hb]
        unfold good
        have hm' := HM.out
        have hs' := HLS.out
        rw [← hs', ← hm', ← HtE.out]
        by_cases e : nts t = s.drop m
        · rw [decide_eq_true e, decide_eq_true ⟨by omega, e⟩]
        · rw [decide_eq_false e, decide_eq_false (fun h => e h.2)]
      have h16 : L ≠ 0 := by omega
      obtain ⟨bb, so, hao, hcL⟩ : ∃ bb so, ao = some ⟨bb, so, none⟩ ∧ L ≤ c := by
        obtain ⟨_, _, ⟨e, _⟩ | ⟨_, b, so, cap', e, hcap, _, _⟩⟩ := HI6.out.txt
        · have := HLS.out; rw [e] at this; exact absurd this (by simp; omega)
        · simp only [Value.slice.injEq] at e
          obtain ⟨e1, e2, rfl⟩ := e
          exact ⟨b, so, e1, by omega⟩
      obtain ⟨p', hsl, hbs', -, -⟩ := (show Bs w6 (.slice (some ⟨bb, so, none⟩) L c) s by rw [← hao]; exact HI6.out.txt).cut HLS.out.symm (by omega) hmL hcL
      rw [← hao] at hsl
      have HSM : Hid (∀ w', But (fun _ => False) w6 w' → Calls Try.prog 16 #[.slice (some ⟨gt, 0, none⟩) 16 16, p'] w' fun e w'' => e = .returned (.bool b) ∧ But (fun _ => False) w6 w'') := by
        intro w' hw'
        rw [← hbd]
        refine Calls.mono (same_any (xs := nts t) (ys := s.drop m) ?_ (hbs'.but hw' (fun _ _ _ h => h))) ?_
        · refine ⟨nts_lt _, by rw [HtN.out]; decide, .inr ⟨by rw [HtN.out]; decide, gt, 0, 16, by rw [HtN.out], by rw [HtN.out]; decide, (HBX.out.but hw' (fun h => h)).lt, fun i hi => ?_⟩⟩
          rw [Nat.zero_add, (HBX.out.but hw' (fun h => h)).cell, u8s_get _ i hi]
        · rintro e w'' ⟨rfl, d, rfl⟩
          exact ⟨rfl, hw'.drewN⟩
      have HBD := Hid.mk' hb
      clear hb hbd hbs' hao hcL h16
      go_upto_region 5 with fail
      refine act_letter ?_
      intro K hK; go_simp; refine hK _ ?_; clear hK K
      refine region_class (l := [_, _, _, _, _]) (o := _) (fun w' => But (fun _ => False) w6 w') (by kernel_rfl) (by kernel_rfl) (by kernel_rfl) rfl (by kernel_rfl) (by kernel_rfl) ((But.refl _ w6).drew) ?_
      refine class_val (.slice (some ⟨gt, 0, none⟩) 16 16) rfl (fun w' _ => by have h := slice16 w' gt; go_simp) ?_
      intro K hK; go_simp; refine hK _ ?_; clear hK K
      refine class_val _ rfl (fun w' _ => rfl) ?_
      intro K hK; go_simp; refine hK _ ?_; clear hK K
      refine class_val _ rfl (fun w' _ => rfl) ?_
      intro K hK; go_simp; refine hK _ ?_; clear hK K
      refine class_val p' rfl (fun w' _ => by have h := hsl w'; go_simp) ?_
      intro K hK; go_simp; refine hK _ ?_; clear hK K
      refine class_call (.bool b) 16 #[.slice (some ⟨gt, 0, none⟩) 16 16, p'] rfl (fun w' _ => by kernel_rfl) (fun w' hw' => HSM.out w' hw') ?_
      intro K hK; go_simp; refine hK _ ?_; clear hK K
      refine wpQuiet_nil ?_
      intro w7 hw7
      have HI7 := Hid.mk' (HI6.out.then hw7)
      clear hw7 HI6 HSM HBX hsl
      cases b with
      | false =>
        go_wp2
        go_ret2
        exact ⟨_, by rw [gcode_bad (by rw [← HLS.out]; exact hlt) HBD.out.symm]; rfl, by rw [gplain_bad HBD.out.symm]; exact Bs.nil _, HI7.out.but⟩
      | true =>
        have HTN : Hid (∀ w', But (fun _ => False) w7 w' → Calls Try.prog 31 #[.agg F, .agg C, .slice ao m c] w' fun e w'' => ∃ v', e = .returned v' ∧ Bs w'' v' (gturn W nc (s.take m)) ∧ But (fun _ => False) w' w'') := by
          intro w' hw'
          have i := HI7.out.then hw'
          rw [HF.out, HC.out]
          refine (rturned_any HN.out i.wds HL.out (i.txt.front (by rw [← HLS.out]; exact hmL) (fun e => (HNO.out e).2)) (by rw [List.length_take]; omega)).mono ?_
          rintro e w'' ⟨v', rfl, h1, h2⟩
          exact ⟨v', rfl, h1.bs, h2⟩
        go_upto_region 7 with fail
        refine region_grow (by kernel_rfl) (by kernel_rfl) (by kernel_rfl) (fun i u wx => match i with
          | 0 => u = .agg F
          | 1 => u = .agg C
          | 2 => u = .slice ao L c
          | 3 => u = .int .i64 (m : Int)
          | 4 => u = .slice ao m c
          | 5 => Bs wx u (gturn W nc (s.take m))
          | 6 => Bs wx u (gturn W nc (s.take m))
          | _ => u = .int .i64 0) ?_ ?_ ?_
        · intro i u wx wy h kk
          split at h
          all_goals first | exact h | exact h.but kk (fun _ _ _ h => h)
        · intro i o a wx ho hbut hkn
          match i, (Array.getElem?_eq_some_iff.1 ho).1 with
          | 0, _ =>
            obtain rfl := Option.some.inj ho
            exact ⟨Know.free rfl, op_value _ (run_load_key (HI7.out.then hbut).key rfl (hkn.was 4 (by kernel_rfl))) ⟨_, rfl, But.refl _ _, show Value.agg (keyV v).toArray = .agg F by rw [HF.out]⟩⟩
          | 1, _ =>
            obtain rfl := Option.some.inj ho
            exact ⟨Know.free rfl, op_value _ (run_load12 HNN.out (blk_add (HI7.out.then hbut).non) rfl (hkn.was 5 (by kernel_rfl))) ⟨_, rfl, But.refl _ _, show Value.agg (u8s (nts nc)).toArray = .agg C by rw [HC.out]⟩⟩
          | 2, _ =>
            obtain rfl := Option.some.inj ho
            exact ⟨Know.free rfl, op_value _ rfl ⟨_, rfl, But.refl _ _, hkn.was 3 (by kernel_rfl)⟩⟩
          | 3, _ =>
            obtain rfl := Option.some.inj ho
            exact ⟨Know.free rfl, op_value _ rfl ⟨_, rfl, But.refl _ _, hkn.was 10 (by kernel_rfl)⟩⟩
          | 4, _ =>
            obtain rfl := Option.some.inj ho
            have e1 := hkn.val 2 32 (by kernel_rfl) rfl
            have e2 := hkn.val 3 33 (by kernel_rfl) rfl
            have h1 := hcut wx
            exact ⟨Know.free rfl, op_value (.slice ao m c) (w' := wx) (run_slice_hi rfl e1 e2 h1) ⟨_, rfl, But.refl _ _, rfl⟩⟩
          | 5, _ =>
            obtain rfl := Option.some.inj ho
            have e1 := hkn.val 0 30 (by kernel_rfl) rfl
            have e2 := hkn.val 1 31 (by kernel_rfl) rfl
            have e3 := hkn.val 4 34 (by kernel_rfl) rfl
            refine ⟨Know.free rfl, op_call 31 [_, _, _] _ #[.agg F, .agg C, .slice ao m c] rfl (by show #[a.eval (.tmp 30), a.eval (.tmp 31), a.eval (.tmp 34)] = _; rw [e1, e2, e3]) (callTurned _ _) ((HTN.out wx hbut).mono ?_)⟩
            rintro e u ⟨v', rfl, h1, h2⟩
            exact ⟨_, rfl, _, rfl, h2, h1⟩
          | 6, _ =>
            obtain rfl := Option.some.inj ho
            have e1 := hkn.val 5 35 (by kernel_rfl) rfl
            exact ⟨Know.free rfl, op_value _ rfl ⟨_, rfl, But.refl _ _, e1⟩⟩
          | 7, _ =>
            obtain rfl := Option.some.inj ho
            exact ⟨Know.free rfl, op_value _ rfl ⟨_, rfl, But.refl _ _, rfl⟩⟩
          | kk + 8, h => exact absurd h (by simp)
        · intro a wx hbut hdef hdone hold
          obtain ⟨v8, hv8, hr8⟩ := hdone 6 8 rfl
          obtain ⟨v9, hv9, hr9⟩ := hdone 7 9 rfl
          have e8 : a.tmps.getD 8 undef = v8 := by rw [Array.getD_eq_getD_getElem?, hv8]; rfl
          have e9 : a.tmps.getD 9 undef = .int .i64 0 := by rw [Array.getD_eq_getD_getElem?, hv9]; exact hr9
          go_wp2
          refine bodyPost_ret (results_tmp2 rfl a.tmps Try.prog wx) (hdef.trans rfl) ?_
          have hm' := HM.out
          refine ⟨v8, ?_, ?_, HI7.out.but.trans hbut⟩
          · rw [e8, e9, gcode_good HBD.out.symm]
          · rw [gplain_good HBD.out.symm, ← HLS.out, ← hm']
            exact hr8
end Go.Proofs.Ythmjdebnjcopnaa
/- gcm under the key of sixteen bytes 0: computed. -/
namespace Go.Proofs.Ythmjdebnjcopnaa
open Go.RowKit

def key0 : List B8 := List.replicate 16 0
def non0 : List B8 := List.replicate 12 0
def words0 : List (List B8) := [[0#8, 0#8, 0#8, 0#8], [0#8, 0#8, 0#8, 0#8], [0#8, 0#8, 0#8, 0#8], [0#8, 0#8, 0#8, 0#8], [98#8, 99#8, 99#8, 99#8], [98#8, 99#8, 99#8, 99#8], [98#8, 99#8, 99#8, 99#8], [98#8, 99#8, 99#8, 99#8], [155#8, 152#8, 152#8, 201#8], [249#8, 251#8, 251#8, 170#8], [155#8, 152#8, 152#8, 201#8], [249#8, 251#8, 251#8, 170#8], [144#8, 151#8, 52#8, 80#8], [105#8, 108#8, 207#8, 250#8], [242#8, 244#8, 87#8, 51#8], [11#8, 15#8, 172#8, 153#8], [238#8, 6#8, 218#8, 123#8], [135#8, 106#8, 21#8, 129#8], [117#8, 158#8, 66#8, 178#8], [126#8, 145#8, 238#8, 43#8], [127#8, 46#8, 43#8, 136#8], [248#8, 68#8, 62#8, 9#8], [141#8, 218#8, 124#8, 187#8], [243#8, 75#8, 146#8, 144#8], [236#8, 97#8, 75#8, 133#8], [20#8, 37#8, 117#8, 140#8], [153#8, 255#8, 9#8, 55#8], [106#8, 180#8, 155#8, 167#8], [33#8, 117#8, 23#8, 135#8], [53#8, 80#8, 98#8, 11#8], [172#8, 175#8, 107#8, 60#8], [198#8, 27#8, 240#8, 155#8], [14#8, 249#8, 3#8, 51#8], [59#8, 169#8, 97#8, 56#8], [151#8, 6#8, 10#8, 4#8], [81#8, 29#8, 250#8, 159#8], [177#8, 212#8, 216#8, 226#8], [138#8, 125#8, 185#8, 218#8], [29#8, 123#8, 179#8, 222#8], [76#8, 102#8, 73#8, 65#8], [180#8, 239#8, 91#8, 203#8], [62#8, 146#8, 226#8, 17#8], [35#8, 233#8, 81#8, 207#8], [111#8, 143#8, 24#8, 142#8]]
def states00 : List (List B8) := [[0#8, 0#8, 0#8, 0#8, 0#8, 0#8, 0#8, 0#8, 0#8, 0#8, 0#8, 0#8, 0#8, 0#8, 0#8, 0#8], [1#8, 0#8, 0#8, 0#8, 1#8, 0#8, 0#8, 0#8, 1#8, 0#8, 0#8, 0#8, 1#8, 0#8, 0#8, 0#8], [198#8, 228#8, 228#8, 139#8, 164#8, 135#8, 135#8, 232#8, 198#8, 228#8, 228#8, 139#8, 164#8, 135#8, 135#8, 232#8], [40#8, 45#8, 243#8, 196#8, 106#8, 243#8, 134#8, 37#8, 74#8, 78#8, 144#8, 167#8, 8#8, 144#8, 229#8, 70#8], [171#8, 210#8, 205#8, 254#8, 55#8, 90#8, 181#8, 73#8, 80#8, 160#8, 175#8, 192#8, 117#8, 154#8, 106#8, 95#8], [212#8, 111#8, 79#8, 108#8, 85#8, 184#8, 150#8, 51#8, 126#8, 5#8, 187#8, 61#8, 121#8, 121#8, 222#8, 35#8], [4#8, 242#8, 202#8, 151#8, 7#8, 120#8, 40#8, 69#8, 226#8, 47#8, 1#8, 150#8, 73#8, 197#8, 215#8, 16#8], [183#8, 170#8, 228#8, 197#8, 29#8, 37#8, 45#8, 79#8, 108#8, 146#8, 15#8, 129#8, 148#8, 229#8, 129#8, 80#8], [35#8, 231#8, 140#8, 60#8, 19#8, 33#8, 99#8, 219#8, 170#8, 192#8, 198#8, 87#8, 46#8, 3#8, 203#8, 149#8], [127#8, 254#8, 14#8, 149#8, 81#8, 165#8, 102#8, 53#8, 14#8, 52#8, 124#8, 71#8, 41#8, 41#8, 236#8, 203#8], [102#8, 233#8, 75#8, 212#8, 239#8, 138#8, 44#8, 59#8, 136#8, 76#8, 250#8, 89#8, 202#8, 52#8, 43#8, 46#8]]
def states01 : List (List B8) := [[0#8, 0#8, 0#8, 0#8, 0#8, 0#8, 0#8, 0#8, 0#8, 0#8, 0#8, 0#8, 0#8, 0#8, 0#8, 1#8], [30#8, 31#8, 33#8, 62#8, 1#8, 0#8, 0#8, 0#8, 1#8, 0#8, 0#8, 0#8, 1#8, 0#8, 0#8, 0#8], [218#8, 234#8, 234#8, 153#8, 117#8, 86#8, 239#8, 81#8, 88#8, 93#8, 195#8, 21#8, 90#8, 218#8, 36#8, 75#8], [107#8, 120#8, 64#8, 75#8, 68#8, 221#8, 91#8, 251#8, 137#8, 115#8, 23#8, 228#8, 120#8, 135#8, 219#8, 170#8], [20#8, 71#8, 112#8, 136#8, 49#8, 23#8, 38#8, 231#8, 31#8, 3#8, 241#8, 64#8, 146#8, 108#8, 39#8, 163#8], [48#8, 221#8, 102#8, 216#8, 232#8, 254#8, 86#8, 127#8, 35#8, 221#8, 233#8, 210#8, 104#8, 84#8, 147#8, 4#8], [222#8, 216#8, 197#8, 211#8, 220#8, 57#8, 47#8, 229#8, 84#8, 30#8, 4#8, 241#8, 188#8, 21#8, 162#8, 105#8], [38#8, 184#8, 247#8, 169#8, 232#8, 26#8, 72#8, 30#8, 120#8, 21#8, 53#8, 10#8, 27#8, 34#8, 38#8, 25#8], [68#8, 36#8, 6#8, 182#8, 217#8, 81#8, 56#8, 157#8, 64#8, 77#8, 99#8, 196#8, 149#8, 251#8, 52#8, 133#8], [131#8, 247#8, 93#8, 208#8, 136#8, 243#8, 141#8, 226#8, 47#8, 131#8, 137#8, 25#8, 89#8, 53#8, 127#8, 54#8], [88#8, 226#8, 252#8, 206#8, 250#8, 126#8, 48#8, 97#8, 54#8, 127#8, 29#8, 87#8, 164#8, 231#8, 69#8, 90#8]]
def states02 : List (List B8) := [[0#8, 0#8, 0#8, 0#8, 0#8, 0#8, 0#8, 0#8, 0#8, 0#8, 0#8, 0#8, 0#8, 0#8, 0#8, 2#8], [21#8, 20#8, 60#8, 40#8, 1#8, 0#8, 0#8, 0#8, 1#8, 0#8, 0#8, 0#8, 1#8, 0#8, 0#8, 0#8], [140#8, 193#8, 193#8, 228#8, 243#8, 208#8, 126#8, 70#8, 78#8, 103#8, 239#8, 3#8, 20#8, 174#8, 30#8, 113#8], [180#8, 202#8, 123#8, 14#8, 252#8, 143#8, 24#8, 200#8, 185#8, 218#8, 130#8, 106#8, 228#8, 112#8, 94#8, 241#8], [200#8, 249#8, 250#8, 206#8, 246#8, 55#8, 164#8, 8#8, 227#8, 225#8, 36#8, 243#8, 159#8, 254#8, 180#8, 77#8], [212#8, 80#8, 11#8, 218#8, 105#8, 234#8, 3#8, 183#8, 100#8, 225#8, 220#8, 126#8, 170#8, 111#8, 85#8, 44#8], [25#8, 220#8, 0#8, 190#8, 69#8, 127#8, 110#8, 54#8, 126#8, 35#8, 84#8, 56#8, 84#8, 192#8, 156#8, 157#8], [129#8, 32#8, 179#8, 174#8, 243#8, 165#8, 100#8, 6#8, 226#8, 147#8, 235#8, 225#8, 143#8, 145#8, 122#8, 236#8], [59#8, 23#8, 137#8, 79#8, 96#8, 150#8, 40#8, 250#8, 38#8, 95#8, 120#8, 133#8, 206#8, 38#8, 171#8, 21#8], [32#8, 139#8, 34#8, 65#8, 157#8, 10#8, 245#8, 15#8, 96#8, 166#8, 145#8, 214#8, 233#8, 221#8, 248#8, 54#8], [3#8, 136#8, 218#8, 206#8, 96#8, 182#8, 163#8, 146#8, 243#8, 40#8, 194#8, 185#8, 113#8, 178#8, 254#8, 120#8]]
def outC1 : List B8 := [88#8, 226#8, 252#8, 206#8, 250#8, 126#8, 48#8, 97#8, 54#8, 127#8, 29#8, 87#8, 164#8, 231#8, 69#8, 90#8]
def outC2 : List B8 := [3#8, 136#8, 218#8, 206#8, 96#8, 182#8, 163#8, 146#8, 243#8, 40#8, 194#8, 185#8, 113#8, 178#8, 254#8, 120#8]
theorem words_0 : words key0 = words0 := by
  show kws key0 4 40 = words0
  rw [kws_by (L := words0) (M := 40) (by decide +kernel) (by decide +kernel) (by decide) (by decide +kernel) 40 (Nat.le_refl _)]
  decide +kernel
theorem ghk_0 : ghk (words key0) = knownH := by
  rw [words_0]
  show encR words0 10 gzero 10 = knownH
  rw [encR_by (S := states00) (by decide +kernel) (by decide +kernel) 10 (Nat.le_refl _)]
  decide +kernel
theorem ctr_01 : ctr (words key0) non0 1 = outC1 := by
  rw [words_0]
  show encR words0 10 (non0 ++ four 1) 10 = outC1
  rw [encR_by (S := states01) (by decide +kernel) (by decide +kernel) 10 (Nat.le_refl _)]
  decide +kernel
theorem ctr_02 : ctr (words key0) non0 2 = outC2 := by
  rw [words_0]
  show encR words0 10 (non0 ++ four 2) 10 = outC2
  rw [encR_by (S := states02) (by decide +kernel) (by decide +kernel) 10 (Nat.le_refl _)]
  decide +kernel
theorem seal_none : gseal (words key0) non0 [] [] = nts outC1 := by
  unfold gseal gtag
  rw [show gturn (words key0) non0 [] = [] from rfl, List.nil_append, none_sum, ctr_01]
  decide +kernel
theorem turn_0 : gturn (words key0) non0 (List.replicate 16 0) = knownT := by
  have h : ∀ i, i < 16 → strm (words key0) non0 i = at8 outC2 i := by
    intro i hi
    unfold strm
    rw [show i / 16 + 2 = 2 by omega, show i % 16 = i by omega, ctr_02]
  have e : gturn (words key0) non0 (List.replicate 16 0) = (List.range 16).map fun i => b8 (BitVec.ofNat 8 ((List.replicate 16 0).getD i 0) ^^^ at8 outC2 i) := by
    unfold gturn
    rw [List.length_replicate]
    refine List.map_congr_left (fun i hi => ?_)
    rw [h i (by simpa using hi)]
  rw [e]
  decide +kernel
def sealed0 : List Nat := knownT ++ nts (gadd knownS outC1)
theorem seal_0 : gseal (words key0) non0 [] (List.replicate 16 0) = sealed0 := by
  unfold gseal gtag
  rw [turn_0, ghk_0, known_sum, ctr_01]
  rfl
theorem sealed_lit : sealed0 = [3, 136, 218, 206, 96, 182, 163, 146, 243, 40, 194, 185, 113, 178, 254, 120, 171, 110, 71, 212, 44, 236, 19, 189, 245, 58, 103, 178, 18, 87, 189, 223] := by decide +kernel
theorem outC1_lit : nts outC1 = [88, 226, 252, 206, 250, 126, 48, 97, 54, 127, 29, 87, 164, 231, 69, 90] := by decide +kernel
end Go.Proofs.Ythmjdebnjcopnaa
/- mac's Same: bytes are told to be the same just if they are. -/
namespace Go.Proofs.Ythmjdebnjcopnaa
open Go.RowKit

theorem xor_byte (a b : Nat) (ha : a < 256) (hb : b < 256) : a ^^^ b < 256 := Nat.xor_lt_two_pow (n := 8) ha hb
theorem xor_nil {x y : Nat} (h : x ^^^ y = 0) : x = y := by
  have e : x ^^^ y ^^^ y = 0 ^^^ y := by rw [h]
  rw [Nat.xor_assoc, Nat.xor_self, Nat.xor_zero, Nat.zero_xor] at e
  exact e
theorem or_zero_iff (d x y : Nat) : d ||| (x ^^^ y) = 0 ↔ d = 0 ∧ x = y := by
  rw [Nat.or_eq_zero_iff]
  constructor
  · rintro ⟨h1, h2⟩; exact ⟨h1, xor_nil h2⟩
  · rintro ⟨h1, rfl⟩; exact ⟨h1, Nat.xor_self _⟩
theorem or_byte (a b : Nat) (ha : a < 256) (hb : b < 256) : a ||| b < 256 := Nat.or_lt_two_pow (n := 8) ha hb

set_option maxHeartbeats 1000000 in
theorem msame_any {w : World} {v u : Value} {xs ys : List Nat} (hv : Bs w v xs) (hu : Bs w u ys) :
    Calls Try.prog 33 #[v, u] w fun e w' => e = .returned (.bool (decide (xs = ys))) ∧ ∃ d, w' = w.drewN d := by
  obtain ⟨n, hn⟩ : ∃ n, n = xs.length := ⟨_, rfl⟩
  have hnb : n ≤ 281474976710656 := by rw [hn]; exact hv.2.1
  by_cases hl : ys.length = n
  · have HV := Hid.mk' hv
    have HU := Hid.mk' hu
    obtain ⟨a0, c0, rfl, -, -⟩ := hv.gen
    obtain ⟨a1, c1, rfl, -, -⟩ := hu.gen
    rw [← hn] at HV ⊢
    rw [hl] at HU ⊢
    have HX := Hid.mk' hn.symm
    have HY := Hid.mk' hl
    clear hv hu hn hl
    go_enter Try.func33, Try.ntmps33
    go_wp2
    go_loopw [5, 14] (fun s i wr => ∃ k d q : Nat, k ≤ n ∧ i = .int .i64 k ∧ s = .int .u8 (d : Int) ∧ d < 256 ∧ (d = 0 ↔ xs.take k = ys.take k) ∧ wr = w.drewN q) (fun _ i _ => n - (intOf i).toNat)
    case atStart => exact ⟨0, 0, 0, Nat.zero_le _, rfl, rfl, by decide, by simp, rfl⟩
    case round =>
      obtain ⟨k, d, q, hk, rfl, rfl, hd, hr, rfl⟩ := hrel
      have HR := Hid.mk' hr
      clear hr
      by_cases hlt : k < n
      · have h0 : 0 < xs.length := by rw [HX.out]; omega
        have h1 : 0 < ys.length := by rw [HY.out]; omega
        obtain ⟨x, hx⟩ : ∃ x, xs.getD k 0 = x := ⟨_, rfl⟩
        obtain ⟨y, hy⟩ : ∃ y, ys.getD k 0 = y := ⟨_, rfl⟩
        have hx1 : x < 256 := by rw [← hx]; exact HV.out.1 _ (getD_mem xs k (by rw [HX.out]; exact hlt))
        have hy1 : y < 256 := by rw [← hy]; exact HU.out.1 _ (getD_mem ys k (by rw [HY.out]; exact hlt))
        obtain ⟨_, _, ⟨e, _⟩ | ⟨_, b0, o0, cc0, e0, _, _, hc0⟩⟩ := HV.out
        · simp [e] at h0
        obtain ⟨_, _, ⟨e, _⟩ | ⟨_, b1, o1, cc1, e1, _, _, hc1⟩⟩ := HU.out
        · simp [e] at h1
        simp only [Value.slice.injEq] at e0 e1
        obtain ⟨rfl, _, rfl⟩ := e0
        obtain ⟨rfl, _, rfl⟩ := e1
        have f0 : w.cell? ⟨b0, o0 + k, none⟩ = some (.int .u8 (x : Nat)) := by rw [← hx]; exact hc0 k (by rw [HX.out]; exact hlt)
        have f1 : w.cell? ⟨b1, o1 + k, none⟩ = some (.int .u8 (y : Nat)) := by rw [← hy]; exact hc1 k (by rw [HY.out]; exact hlt)
        have hv1 : bits .xor .u8 (x : Int) (y : Int) = ((x ^^^ y : Nat) : Int) := u8_xor_nat x y hx1 hy1
        have hv2 : bits .or .u8 (d : Int) ((x ^^^ y : Nat) : Int) = ((d ||| (x ^^^ y) : Nat) : Int) := u8_or_nat d _ hd (xor_byte x y hx1 hy1)
        have HZ : Hid ((d ||| (x ^^^ y) = 0) ↔ xs.take (k + 1) = ys.take (k + 1)) := by
          show _ ↔ _
          rw [or_zero_iff, HR.out, take_next' xs k (by rw [HX.out]; exact hlt), take_next' ys k (by rw [HY.out]; exact hlt), hx, hy]
          constructor
          · rintro ⟨h1, h2⟩; rw [h1, h2]
          · intro h
            have h' := List.append_inj h (by simp [HX.out, HY.out])
            exact ⟨h'.1, by simpa using h'.2⟩
        have HD : Hid (d ||| (x ^^^ y) < 256) := or_byte _ _ hd (xor_byte _ _ hx1 hy1)
        clear hc0 hc1 hx hy HV HU h0 h1
        generalize (x ^^^ y) = xy at *
        generalize (d ||| xy) = d' at *
        have hlti : (k : Int) < (n : Int) := by omega
        go_wp2
        go_quiet (fail)
        go_wp2
        refine ⟨⟨k + 1, d', q + nq, by omega, by go_num, rfl, HD.out, HZ.out, by simp⟩, by simp [intOf]; omega⟩
      · have hkn : k = n := by omega
        have hge : ¬ ((k : Int) < (n : Int)) := by omega
        have hr' : (d = 0) ↔ xs = ys := by
          rw [HR.out, List.take_of_length_le (by rw [HX.out]; omega), List.take_of_length_le (by rw [HY.out]; omega)]
        have hdec : ((d : Int) == 0) = decide (xs = ys) := by
          rw [Bool.eq_iff_iff, beq_iff_eq, decide_eq_true_eq, ← hr']; omega
        have HDC := Hid.mk' hdec
        clear hdec hr' HR hkn
        go_wp2
        go_ret
        exact ⟨by rw [← HDC.out]; rfl, q, rfl⟩
  · obtain ⟨a0, c0, rfl, -, -⟩ := hv.gen
    obtain ⟨a1, c1, rfl, -, -⟩ := hu.gen
    have hne : xs ≠ ys := fun e => hl (by rw [hn, e])
    have hne2 : ¬ ((xs.length : Int) = (ys.length : Int)) := by omega
    have HD : Hid (decide (xs = ys) = false) := by show _ = _; simp [hne]
    generalize xs.length = l0 at *
    generalize ys.length = l1 at *
    clear hv hu hne hn hl
    rw [HD.out]
    go_enter Try.func33, Try.ntmps33
    go_wp2
    go_ret
    exact ⟨rfl, 0, rfl⟩
end Go.Proofs.Ythmjdebnjcopnaa
/- gcm: a counter. -/
namespace Go.Proofs.Ythmjdebnjcopnaa
open Go.RowKit

theorem zeroC (w : World) : (zeroValue 115).run Try.prog w = .ok (.agg (u8s (List.replicate 16 0)).toArray) w := by kernel_rfl
theorem iC : (Try.prog.info? 115).map (·.size) = some 16 := by kernel_rfl
theorem sliceC (w : World) (g : Nat) : (Instr.sliceAt 115 (.pointer (some ⟨g, 0, none⟩)) none none none).run Try.prog w = .ok (.slice (some ⟨g, 0, none⟩) 16 16) w := by kernel_rfl
theorem sliceN (w : World) (g : Nat) : (Instr.sliceAt 23 (.pointer (some ⟨g, 0, none⟩)) none none none).run Try.prog w = .ok (.slice (some ⟨g, 0, none⟩) 12 12) w := by kernel_rfl
theorem four_cells (n : Nat) (h : n < 4294967296) : u8s (nts (four n)) = [.int .u8 ((n : Int) / 16777216), .int .u8 ((n : Int) / 65536 % 256), .int .u8 ((n : Int) / 256 % 256), .int .u8 ((n : Int) % 256)] := by
  have e : ∀ m : Nat, b8 (BitVec.ofNat 8 m) = m % 256 := fun m => by unfold b8; simp
  simp only [four, nts, u8s, List.map_cons, List.map_nil, e]
  have e0 : ((n / 16777216 % 256 : Nat) : Int) = (n : Int) / 16777216 := by omega
  have e1 : ((n / 65536 % 256 : Nat) : Int) = (n : Int) / 65536 % 256 := by omega
  have e2 : ((n / 256 % 256 : Nat) : Int) = (n : Int) / 256 % 256 := by omega
  have e3 : ((n % 256 : Nat) : Int) = (n : Int) % 256 := by omega
  rw [e0, e1, e2, e3]
theorem ctr_set (A : List Value) (hA : A.length = 12) (p q r s a b c d : Value) : ((((A ++ [p, q, r, s]).set 12 a).set 13 b).set 14 c).set 15 d = A ++ [a, b, c, d] := by
  simp [List.set_append_right, hA]
set_option maxRecDepth 100000 in
set_option maxHeartbeats 2000000 in
theorem counterOf_any {w : World} {nc : List B8} {n : Nat} (hn : nc.length = 12) (hb : n < 4294967296) :
    Calls Try.prog 68 #[.agg (u8s (nts nc)).toArray, .int .u32 (n : Int)] w fun e w' => e = .returned (.agg (u8s (nts (nc ++ four n))).toArray) ∧ But (fun _ => False) w w' := by
  obtain ⟨g, hg⟩ : ∃ g, g = w.heap.size := ⟨_, rfl⟩
  have hz := zeroC
  obtain ⟨Z, hZ⟩ : ∃ Z, Z = (u8s (List.replicate 16 0)).toArray := ⟨_, rfl⟩
  rw [← hZ] at hz
  obtain ⟨C, hC⟩ : ∃ C, C = (u8s (nts nc)).toArray := ⟨_, rfl⟩
  rw [← hC]
  obtain ⟨W0, hW0⟩ : ∃ W0, W0 = ((w.alloc (.cells C 23)).alloc (.cells Z 115)).alloc (.cells Z 115) := ⟨_, rfl⟩
  have al : ∀ (x : World) (o : Obj), But (fun _ => False) x (x.alloc o) := fun x o => (But.refl _ x).alloc o
  have hT0 : But (fun _ => False) w W0 := by rw [hW0]; exact ((al _ _).alloc _).alloc _
  have hN0 : Blk W0 g 23 (u8s (nts nc)) := by rw [hW0, hC]; exact ((Blk.new hg.symm).but (al _ _) (fun h => h)).but (al _ _) (fun h => h)
  have hR0 : Blk W0 (g + 1) 115 (u8s (List.replicate 16 0)) := by rw [hW0, hZ]; exact (Blk.new (by simp [hg])).but (al _ _) (fun h => h)
  have hC0 : Blk W0 (g + 2) 115 ([] ++ u8s (List.replicate 12 0) ++ u8s (List.replicate 4 0)) := by rw [hW0, hZ]; exact Blk.new (by simp [hg])
  have HN0 := Hid.mk' hN0
  have HR0 := Hid.mk' hR0
  have HC0 := Hid.mk' hC0
  have HT0 := Hid.mk' hT0
  have HG := Hid.mk' hg
  have HN := Hid.mk' hn
  have HW0 := Hid.mk' hW0
  clear hN0 hR0 hC0 hT0 hg hn hW0 hC hZ al
  go_enter Try.func68, Try.ntmps68
  go_upto_region 2 with fail
  rw [← HW0.out, ← HG.out, show g + 1 + 1 = g + 2 from rfl]
  refine region_class (l := [_, _]) (o := _) (fun w' => But (fun _ => False) W0 w') (by kernel_rfl) (by kernel_rfl) (by kernel_rfl) rfl (by kernel_rfl) (by kernel_rfl) ((But.refl _ W0).drew) ?_
  refine class_val (.slice (some ⟨g + 2, 0, none⟩) 16 16) rfl (fun w' _ => by have hs := sliceC w' (g + 2); go_simp) ?_
  intro K hK; go_simp; refine hK _ ?_; clear hK K
  refine class_val (.slice (some ⟨g, 0, none⟩) 12 12) rfl (fun w' _ => by have hs := sliceN w' g; go_simp) ?_
  intro K hK; go_simp; refine hK _ ?_; clear hK K
  refine wpQuiet_nil ?_
  intro w1 hw1
  have hl : (nts nc).length = 12 := by rw [nts_len, HN.out]
  have hN1 := HN0.out.but hw1 (fun h => h)
  have hC0 := HC0.out.but hw1 (fun h => h)
  have hR0 := HR0.out.but hw1 (fun h => h)
  have hcp := run_copy_blk (off := 0) (dLen := 16) (dCap := 16) (sCap := 12) (b := g) (so := 0) (n := 12) (ys := nts nc) 3 hC0 rfl (by simp [u8s]) (by rw [hl]; rfl) (fun i hi => by rw [hN1.cell, Nat.zero_add, u8s_get _ i hi])
  rw [List.take_of_length_le (by omega), hl] at hcp
  obtain ⟨W1, hW1⟩ : ∃ W1, W1 = w1.setRow (g + 2) ([] ++ u8s (nts nc) ++ u8s (List.replicate 4 0)).toArray := ⟨_, rfl⟩
  rw [← hW1] at hcp
  have hB1 : But (· = g + 2) w1 W1 := by rw [hW1]; exact (But.refl (· = g + 2) w1).setRow (fun _ => rfl) _
  have hC1 : Blk W1 (g + 2) 115 (u8s (nts nc) ++ [.int .u8 0, .int .u8 0, .int .u8 0, .int .u8 0]) := by rw [hW1]; exact hC0.row _
  have hR1 := hR0.but hB1 (show ¬ (g + 1 = g + 2) by omega)
  have hul : (u8s (nts nc)).length = 12 := by simp [u8s, hl]
  have c0 : W1.cell? ⟨g + 2, 12, none⟩ = some (.int .u8 0) := by rw [hC1.cell, List.getElem?_append_right (by omega), hul]; rfl
  have c1 : W1.cell? ⟨g + 2, 13, none⟩ = some (.int .u8 0) := by rw [hC1.cell, List.getElem?_append_right (by omega), hul]; rfl
  have c2 : W1.cell? ⟨g + 2, 14, none⟩ = some (.int .u8 0) := by rw [hC1.cell, List.getElem?_append_right (by omega), hul]; rfl
  have c3 : W1.cell? ⟨g + 2, 15, none⟩ = some (.int .u8 0) := by rw [hC1.cell, List.getElem?_append_right (by omega), hul]; rfl
  have f0 := hC1.free 12
  have f1 := hC1.free 13
  have f2 := hC1.free 14
  have f3 := hC1.free 15
  have HD : Hid (Blk ((((W1.setCell ⟨g + 2, 12, none⟩ (.int .u8 ((n : Int) / 16777216))).setCell ⟨g + 2, 13, none⟩ (.int .u8 ((n : Int) / 65536 % 256))).setCell ⟨g + 2, 14, none⟩ (.int .u8 ((n : Int) / 256 % 256))).setCell ⟨g + 2, 15, none⟩ (.int .u8 ((n : Int) % 256))) (g + 2) 115 (u8s (nts (nc ++ four n)))) := by
    show Blk _ _ _ _
    have h := (((hC1.set 12 (.int .u8 ((n : Int) / 16777216))).set 13 (.int .u8 ((n : Int) / 65536 % 256))).set 14 (.int .u8 ((n : Int) / 256 % 256))).set 15 (.int .u8 ((n : Int) % 256))
    have e : nts (nc ++ four n) = nts nc ++ nts (four n) := by simp [nts]
    have e2 : u8s (nts nc ++ nts (four n)) = u8s (nts nc) ++ u8s (nts (four n)) := by simp [u8s]
    rw [e, e2, four_cells n hb]
    rw [ctr_set _ hul] at h
    exact h
  have HT : Hid (But (· = g + 2) w1 ((((W1.setCell ⟨g + 2, 12, none⟩ (.int .u8 ((n : Int) / 16777216))).setCell ⟨g + 2, 13, none⟩ (.int .u8 ((n : Int) / 65536 % 256))).setCell ⟨g + 2, 14, none⟩ (.int .u8 ((n : Int) / 256 % 256))).setCell ⟨g + 2, 15, none⟩ (.int .u8 ((n : Int) % 256)))) :=
    (((hB1.setCell (p := ⟨g + 2, 12, none⟩) (fun _ => rfl) _).setCell (p := ⟨g + 2, 13, none⟩) (fun _ => rfl) _).setCell (p := ⟨g + 2, 14, none⟩) (fun _ => rfl) _).setCell (p := ⟨g + 2, 15, none⟩) (fun _ => rfl) _
  have HR := Hid.mk' (hR0.but HT.out (show ¬ (g + 1 = g + 2) by omega))
  have HT1 := Hid.mk' (HT0.out.trans hw1)
  have HZL : Hid ((nts (nc ++ four n)).length = 16) := by show _ = _; rw [nts_len, List.length_append, HN.out]; rfl
  clear hul hl hC1 hB1 hW1 hC0 hN1 hR0 hw1 HN0 HR0 HC0 HT0 HW0 hR1
  go_upto_region 7 with fail
  generalize ((((W1.setCell ⟨g + 2, 12, none⟩ (.int .u8 ((n : Int) / 16777216))).setCell ⟨g + 2, 13, none⟩ (.int .u8 ((n : Int) / 65536 % 256))).setCell ⟨g + 2, 14, none⟩ (.int .u8 ((n : Int) / 256 % 256))).setCell ⟨g + 2, 15, none⟩ (.int .u8 ((n : Int) % 256))) = W2 at *
  obtain ⟨D, hD⟩ : ∃ D, D = nts (nc ++ four n) := ⟨_, rfl⟩
  rw [← hD] at HD HZL
  have HDD := Hid.mk' hD
  clear hD c0 c1 c2 c3 f0 f1 f2 f3 hcp hb
  go_wp2_with (first
    | (refine wpList_load_u8s Try.underlying115 iC rfl _ rfl (g + 2) D HZL.out rfl HD.out ?_)
    | (refine wpList_store_u8s iC rfl _ _ rfl (g + 1) D HZL.out rfl (by exact rfl) _ (by simp [u8s]) HR.out ?_; intro w9 hb9 hbut9))
  refine bodyPost_ret (results_cell_row rfl _ _ (g + 1) _ _ _ _ rfl hb9 Try.underlying115 rfl (by rw [iC]; simp [u8s, HZL.out])) rfl ⟨by rw [← HDD.out], ?_⟩
  exact (HT1.out.then HT.out (fun j hj e => by have := HG.out; omega)).then hbut9 (fun j hj e => by have := HG.out; omega)
/-- A box of these words. -/
structure Bx0 (w : World) (gx gc gb gw gk : Nat) (W : List (List B8)) : Prop where
  blk : Blk w gx 55 [.pointer (some ⟨gc, 0, none⟩), .pointer (some ⟨gk, 0, none⟩)]
  cph : Cph w gc gb gw W
  key : Ky w gk (ghk W)
theorem Bx0.grow {w w' : World} {gx gc gb gw gk : Nat} {W : List (List B8)} (h : Bx0 w gx gc gb gw gk W) (k : But (fun _ => False) w w') : Bx0 w' gx gc gb gw gk W :=
  ⟨h.blk.but k (fun h => h), h.cph.grow k, h.key.but k (fun h => h)⟩
theorem iN : (Try.prog.info? 23).map (·.size) = some 12 := by kernel_rfl
theorem run_loadN {w : World} {o : Oper} {ρ : Operand → Value} {x : Operand} {g : Nat} {D : List Nat} (hD : D.length = 12) (hb : Blk w g 23 (u8s D)) (ho : o.op = .load 23 x) (hx : ρ x = .pointer (some ⟨g, 0, none⟩)) :
    (execOp ρ o).run Try.prog w = .ok (.value (.agg (u8s D).toArray)) w := by
  have h := run_loadVar_cells w ⟨g, 0, none⟩ 23 (u8s D) _ (blk_add hb) Try.underlying23 rfl (by rw [iN]; simp [u8s, hD])
  unfold execOp
  simp only [ho, hx, Instr.loadAt, Instr.sureAddr, Sem.run_bind, Sem.run_pure, Result.andThen_ok, h]
set_option maxRecDepth 100000 in
set_option maxHeartbeats 2000000 in
theorem encrypted_any {w : World} {gx gc gb gw gk : Nat} {W : List (List B8)} {nc : List B8} {n : Nat} (hx : Bx0 w gx gc gb gw gk W) (hn : nc.length = 12) (hb : n < 4294967296) :
    Calls Try.prog 49 #[.pointer (some ⟨gx, 0, none⟩), .agg (u8s (nts nc)).toArray, .int .u32 (n : Int)] w fun e w' => e = .returned (.agg (u8s (nts (ctr W nc n))).toArray) ∧ But (fun _ => False) w w' := by
  obtain ⟨g, hg⟩ : ∃ g, g = w.heap.size := ⟨_, rfl⟩
  have hz := zero16
  obtain ⟨Z, hZ⟩ : ∃ Z, Z = (u8s (List.replicate 16 0)).toArray := ⟨_, rfl⟩
  rw [← hZ] at hz
  obtain ⟨C, hC⟩ : ∃ C, C = (u8s (nts nc)).toArray := ⟨_, rfl⟩
  rw [← hC]
  obtain ⟨W0, hW0⟩ : ∃ W0, W0 = (w.alloc (.cells C 23)).alloc (.cells Z 44) := ⟨_, rfl⟩
  have al : ∀ (x : World) (o : Obj), But (fun _ => False) x (x.alloc o) := fun x o => (But.refl _ x).alloc o
  have hT0 : But (fun _ => False) w W0 := by rw [hW0]; exact (al _ _).alloc _
  have HN0 : Hid (Blk W0 g 23 (u8s (nts nc))) := by rw [hW0, hC]; exact (Blk.new hg.symm).but (al _ _) (fun h => h)
  have HR0 : Hid (Blk W0 (g + 1) 44 (u8s (List.replicate 16 0))) := by rw [hW0, hZ]; exact Blk.new (by simp [hg])
  have HX0 := Hid.mk' (hx.grow hT0)
  have HT0 := Hid.mk' hT0
  have HG := Hid.mk' hg
  have HN := Hid.mk' hn
  have HNL : Hid ((nts nc).length = 12) := by show _ = _; rw [nts_len, hn]
  have HCL : Hid ((nc ++ four n).length = 16) := by show _ = _; rw [List.length_append, hn]; rfl
  have HB := Hid.mk' hb
  have HW0 := Hid.mk' hW0
  clear hT0 hg hn hW0 hC hZ al hx hb
  go_enter Try.func49, Try.ntmps49
  go_upto_region 1 with fail
  rw [← HW0.out, ← HG.out]
  refine region_class (l := [_, _, _, _, _, _, _, _]) (o := _) (fun w' => But (fun _ => False) W0 w') (by kernel_rfl) (by kernel_rfl) (by kernel_rfl) rfl (by kernel_rfl) (by kernel_rfl) ((But.refl _ W0).drew) ?_
  refine class_val _ rfl (fun w' _ => rfl) ?_
  intro K hK; go_simp; refine hK _ ?_; clear hK K
  refine class_val (.pointer (some ⟨gx, 0, none⟩)) rfl (fun w' _ => by go_simp) ?_
  intro K hK; go_simp; refine hK _ ?_; clear hK K
  refine class_val (.pointer (some ⟨gx, 0, none⟩)) rfl (fun w' _ => by go_simp) ?_
  intro K hK; go_simp; refine hK _ ?_; clear hK K
  refine class_val (.pointer (some ⟨gc, 0, none⟩)) rfl (fun w' hw' => by have hc : w'.cell? ⟨gx, 0, none⟩ = some (.pointer (some ⟨gc, 0, none⟩)) := (HX0.out.grow hw').blk.cell 0; go_simp) ?_
  intro K hK; go_simp; refine hK _ ?_; clear hK K
  refine class_val (.agg (u8s (nts nc)).toArray) rfl (fun w' hw' => run_loadN HNL.out (HN0.out.but hw' (fun h => h)) rfl rfl) ?_
  intro K hK; go_simp; refine hK _ ?_; clear hK K
  refine class_val _ rfl (fun w' _ => rfl) ?_
  intro K hK; go_simp; refine hK _ ?_; clear hK K
  refine class_call (.agg (u8s (nts (nc ++ four n))).toArray) 68 #[.agg (u8s (nts nc)).toArray, .int .u32 (n : Int)] rfl (fun w' _ => by kernel_rfl) (fun w' hw' => (counterOf_any HN.out HB.out).mono (fun r w'' h => ⟨h.1, hw'.trans h.2⟩)) ?_
  intro K hK; go_simp; refine hK _ ?_; clear hK K
  refine class_call (.agg (u8s (nts (ctr W nc n))).toArray) 25 #[.pointer (some ⟨gc, 0, none⟩), .agg (u8s (nts (nc ++ four n))).toArray] rfl (fun w' _ => by kernel_rfl) (fun w' hw' => (encrypt_any (HX0.out.grow hw').cph HCL.out).mono (fun r w'' h => ⟨h.1, hw'.trans h.2⟩)) ?_
  intro K hK; go_simp; refine hK _ ?_; clear hK K
  refine wpQuiet_nil ?_
  intro w1 hw1
  have HR1 := Hid.mk' (HR0.out.but hw1 (fun h => h))
  have HT1 := Hid.mk' (HT0.out.trans hw1)
  obtain ⟨zs, hzs⟩ : ∃ zs, zs = nts (ctr W nc n) := ⟨_, rfl⟩
  rw [← hzs]
  have HZL : Hid (zs.length = 16) := by show _ = _; rw [hzs, nts_len, ctr_len]
  have HZS := Hid.mk' hzs
  clear hzs hw1 HR0 HT0 HW0 HX0 HN0
  go_wp2_with (refine wpList_store_u8s i23 rfl _ _ rfl (g + 1) zs HZL.out rfl (by exact rfl) _ (by simp [u8s]) HR1.out ?_; intro w9 hb9 hbut9)
  refine bodyPost_ret (results_cell_row rfl _ _ (g + 1) _ _ _ _ rfl hb9 Try.underlying44 rfl (by rw [i23]; simp [u8s, HZL.out])) rfl ⟨by rw [← HZS.out], HT1.out.then hbut9 (fun j hj e => by have := HG.out; omega)⟩
theorem pmade_any {w : World} {gx gc gb gw gk : Nat} {W : List (List B8)} (h : Bx0 w gx gc gb gw gk W) :
    Calls Try.prog 28 #[.pointer (some ⟨gx, 0, none⟩)] w fun e w' => e = .returned (.bool true) ∧ w' = w := by
  have c0 : w.cell? ⟨gx, 0, none⟩ = some (.pointer (some ⟨gc, 0, none⟩)) := h.blk.cell 0
  clear h
  go_enter Try.func28, Try.ntmps28
  go_wp2
  go_ret
  exact ⟨rfl, rfl⟩
theorem pmade_nil {w : World} : Calls Try.prog 28 #[.pointer none] w fun e w' => e = .returned (.bool false) ∧ w' = w := by
  go_enter Try.func28, Try.ntmps28
  go_wp2
  go_ret
  exact ⟨rfl, rfl⟩
end Go.Proofs.Ythmjdebnjcopnaa
/- gcm: the tag. -/
namespace Go.Proofs.Ythmjdebnjcopnaa
open Go.RowKit

theorem idx_u8 (T n : Nat) (hT : Try.prog.underlying T = some (.array n 5)) (cs : Array Value) (t : Nat) (v : Value) (ht : t < n) (hc : cs[t]? = some v) (w : World) :
    (Instr.index T (.agg cs) (.int .i64 (t : Int))).run Try.prog w = .ok v w := by
  have h1 : (sizeOf 5).run Try.prog w = .ok 1 w := by kernel_rfl
  simp [Instr.index, run_underlying hT, asIntOf, h1, part, hc, go_sem]
  intro h; omega
theorem idx16 (B : List B8) (hB : B.length = 16) (k : Nat) (hk : k < 16) (w : World) : (Instr.index 44 (.agg (u8s (nts B)).toArray) (.int .i64 (k : Int))).run Try.prog w = .ok (.int .u8 (b8 (at8 B k) : Nat)) w := by
  refine idx_u8 _ 16 Try.underlying44 _ k _ hk ?_ w
  rw [List.getElem?_toArray]
  have h := blk_nts (Blk.new (w := w) (T := 44) (L := u8s (nts B)) rfl) k (by rw [hB]; exact hk)
  rw [Blk.cell (Blk.new (w := w) (T := 44) (L := u8s (nts B)) rfl)] at h
  exact h
/-- What memory is amid tag. -/
structure TgI (w : World) (g gt : Nat) (a b : List B8) (k : Nat) (wr : World) : Prop where
  out : Blk wr gt 44 (u8s (nts (partG a b k)))
  res : Blk wr (g + 1) 44 (u8s (List.replicate 16 0))
  but : But (fun _ => False) w wr
set_option maxRecDepth 100000 in
set_option maxHeartbeats 2000000 in
theorem ptag_any {w : World} {gx gc gb gw gk : Nat} {W : List (List B8)} {nc : List B8} {v1 v2 : Value} {xs ys : List Nat} (hx : Bx0 w gx gc gb gw gk W) (hn : nc.length = 12) (h1 : Bs w v1 xs) (h2 : Bs w v2 ys) (l1 : xs.length ≤ 10000) (l2 : ys.length ≤ 10000) :
    Calls Try.prog 30 #[.pointer (some ⟨gx, 0, none⟩), .agg (u8s (nts nc)).toArray, v1, v2] w fun e w' => e = .returned (.agg (u8s (nts (gtag W nc xs ys))).toArray) ∧ But (fun _ => False) w w' := by
  obtain ⟨g, hg⟩ : ∃ g, g = w.heap.size := ⟨_, rfl⟩
  have hz := zero16
  obtain ⟨Z, hZ⟩ : ∃ Z, Z = (u8s (List.replicate 16 0)).toArray := ⟨_, rfl⟩
  rw [← hZ] at hz
  obtain ⟨C, hC⟩ : ∃ C, C = (u8s (nts nc)).toArray := ⟨_, rfl⟩
  rw [← hC]
  obtain ⟨W0, hW0⟩ : ∃ W0, W0 = (w.alloc (.cells C 23)).alloc (.cells Z 44) := ⟨_, rfl⟩
  have al : ∀ (x : World) (o : Obj), But (fun _ => False) x (x.alloc o) := fun x o => (But.refl _ x).alloc o
  have hT0 : But (fun _ => False) w W0 := by rw [hW0]; exact (al _ _).alloc _
  have HN0 : Hid (Blk W0 g 23 (u8s (nts nc))) := by rw [hW0, hC]; exact (Blk.new hg.symm).but (al _ _) (fun h => h)
  have HR0 : Hid (Blk W0 (g + 1) 44 (u8s (List.replicate 16 0))) := by rw [hW0, hZ]; exact Blk.new (by simp [hg])
  have HX0 := Hid.mk' (hx.grow hT0)
  have c1 : W0.cell? ⟨gx, 1, none⟩ = some (.pointer (some ⟨gk, 0, none⟩)) := HX0.out.blk.cell 1
  have HS := Hid.mk' (psum_any HX0.out.key (h1.but hT0 (fun _ _ _ h => h)) (h2.but hT0 (fun _ _ _ h => h)) l1 l2)
  have HT0 := Hid.mk' hT0
  have HG := Hid.mk' hg
  have HN := Hid.mk' hn
  have HNL : Hid ((nts nc).length = 12) := by show _ = _; rw [nts_len, hn]
  have HW0 := Hid.mk' hW0
  have HZ := Hid.mk' hZ
  rw [hW0] at c1
  clear hT0 hg hn hW0 hC hZ al hx h1 h2
  go_enter Try.func30, Try.ntmps30
  go_wp2_with fail
  rw [← HW0.out, ← HG.out]
  refine Calls.mono HS.out ?_
  rintro e w1 ⟨rfl, hb1⟩
  obtain ⟨gt, hgt⟩ : ∃ gt, gt = w1.heap.size := ⟨_, rfl⟩
  obtain ⟨S, hS⟩ : ∃ S, S = gsum (ghk W) xs ys := ⟨_, rfl⟩
  have HSL : Hid (S.length = 16) := by show _ = _; rw [hS]; exact gsumN_len _ _ _
  have HSN : Hid ((nts S).length = 16) := by show _ = _; rw [nts_len]; exact HSL.out
  rw [← hS]
  have HB1 : Hid (Blk (w1.alloc (.cells Z 44)) gt 44 (u8s (List.replicate 16 0))) := by show Blk _ _ _ _; rw [HZ.out]; exact Blk.new hgt.symm
  have HA1 : Hid (But (fun _ => False) W0 (w1.alloc (.cells Z 44))) := hb1.trans ((But.refl _ w1).alloc _)
  have HGT := Hid.mk' hgt
  have HS' := Hid.mk' hS
  have HLE : Hid (W0.heap.size ≤ gt) := by show _ ≤ _; rw [hgt]; exact hb1.size
  clear hgt hS hb1 HS c1 HW0
  go_wp2_with (first
    | (refine wpList_store_u8s i23 rfl _ _ rfl gt (nts S) HSN.out (by rw [HGT.out]; rfl) (by exact rfl) _ (by simp [u8s]) HB1.out ?_; intro w2 hb2 hbut2; have hW2 : Hid (But (fun _ => False) W0 w2) := HA1.out.then hbut2 (fun j hj e => by have h := HLE.out; omega))
    | (refine wpList_load_u8s Try.underlying23 iN rfl _ rfl g (nts nc) HNL.out rfl (HN0.out.but hW2.out (fun h => h)) ?_)
    | fail)
  refine Calls.mono (encrypted_any (n := 1) (HX0.out.grow hW2.out) HN.out (by decide)) ?_
  rintro e w3 ⟨rfl, hb3⟩
  obtain ⟨E, hE⟩ : ∃ E, E = ctr W nc 1 := ⟨_, rfl⟩
  have hEL : E.length = 16 := by rw [hE, ctr_len]
  rw [← hE]
  obtain ⟨A, hA⟩ : ∃ A, A = (u8s (nts E)).toArray := ⟨_, rfl⟩
  have HIX : Hid (∀ k : Nat, k < 16 → ∀ w, (Instr.index 44 (.agg A) (.int .i64 (k : Int))).run Try.prog w = .ok (.int .u8 (b8 (at8 E k) : Nat)) w) := by
    intro k hk w
    rw [hA]
    exact idx16 E hEL k hk w
  rw [← hA]
  have HI0 : Hid (TgI w g gt S E 0 w3) := by
    refine ⟨?_, (HR0.out.but hW2.out (fun h => h)).but hb3 (fun h => h), (HT0.out.trans hW2.out).trans hb3⟩
    rw [partG_zero _ _ HSL.out]
    exact hb2.but hb3 (fun h => h)
  have HE := Hid.mk' hE
  have HGW : Hid (w.heap.size + 1 < gt) := by
    show _ < _
    have h1 := HLE.out
    have h2 := HR0.out.lt
    have h3 := HG.out
    omega
  rw [← HGT.out]
  clear hE hA hb3 hb2 hbut2 hW2 hEL HB1 HA1 HR0 HT0 HN0 HX0 HGT
  go_wp2
  go_loopw [22] (fun i wr => ∃ k : Nat, k ≤ 16 ∧ i = .int .i64 k ∧ TgI w g gt S E k wr) (fun i _ => 16 - (intOf i).toNat)
  case atStart => exact ⟨0, by decide, rfl, HI0.out⟩
  case round =>
    obtain ⟨k, hk, rfl, hI⟩ := hrel
    have HI := Hid.mk' hI
    clear hI HI0
    by_cases hlt : k < 16
    · have hki : (k : Int) < 16 := by omega
      have c1 := blk_nts HI.out.out k (by rw [partG_len]; exact hlt)
      rw [partG_at S E k hlt] at c1
      have hix := HIX.out k hlt wr
      have hfr := HI.out.out.free k
      have hxor := xor_b8 (at8 S k) (at8 E k)
      generalize hX : at8 S k = X at *
      generalize hY : at8 E k = Y at *
      have HXY : Hid (at8 S k = X ∧ at8 E k = Y) := ⟨hX, hY⟩
      clear hX hY
      go_wp2
      have h := HI.out
      have hs2 : But (· = gt) wr (wr.setCell ⟨gt, k, none⟩ (.int .u8 (b8 (X ^^^ Y) : Nat))) := (But.refl (· = gt) wr).setCell (p := ⟨gt, k, none⟩) (fun _ => rfl) _
      refine ⟨⟨k + 1, by omega, by go_num, ⟨?_, h.res.but hs2 (fun e => by have h1 := HGW.out; have h2 := HLE.out; have h3 := HG.out; omega), h.but.then hs2 (fun i hi e => by have := HGW.out; omega)⟩⟩, by simp [intOf]; omega⟩
      rw [← partG_set S E k hlt, HXY.out.1, HXY.out.2]
      exact blk_nts_set h.out k _
    · have hk16 : k = 16 := by omega
      subst hk16
      have hcast : ((16 : Nat) : Int) = 16 := rfl
      rw [hcast]
      obtain ⟨D, hD⟩ : ∃ D, D = nts (gadd S E) := ⟨_, rfl⟩
      have HO : Hid (Blk wr gt 44 (u8s D)) := by
        have h := HI.out.out
        rw [partG_all] at h
        rw [hD]
        exact h
      have HDL : Hid (D.length = 16) := by show _ = _; rw [hD, nts_len, gadd_len]
      have HD := Hid.mk' hD
      clear hD
      go_wp2_with (first
        | (refine wpList_load_u8s Try.underlying44 i23 rfl _ rfl gt D HDL.out rfl HO.out ?_)
        | (refine wpList_store_u8s i23 rfl _ _ rfl (g + 1) D HDL.out rfl (by exact rfl) _ (by simp [u8s]) HI.out.res ?_; intro w9 hb9 hbut9))
      refine bodyPost_ret (results_cell_row rfl _ _ (g + 1) _ _ _ _ rfl hb9 Try.underlying44 rfl (by rw [i23]; simp [u8s, HDL.out])) rfl ⟨?_, HI.out.but.then hbut9 (fun j hj e => by have := HG.out; omega)⟩
      unfold gtag
      rw [← HE.out, ← HS'.out, ← HD.out]
end Go.Proofs.Ythmjdebnjcopnaa
/- gcm: a text masked by the nonce's stream. -/
namespace Go.Proofs.Ythmjdebnjcopnaa
open Go.RowKit

theorem slice_low {b so m cap n : Nat} (hn : n ≤ m) (w0 : World) :
    (Instr.sliceAt 22 (.slice (some ⟨b, so, none⟩) m cap) (some (.int .i64 (n : Int))) none none).run Try.prog w0 = .ok (.slice (some (if cap = n then ⟨b, so, none⟩ else ⟨b, so + n, none⟩)) (m - n) (cap - n)) w0 := by
  have hu : Try.prog.underlying 22 = some (.slice (Try.prog.elem 22)) := by kernel_rfl
  have he : Try.prog.elem 22 = 5 := by kernel_rfl
  have hs : ∀ w0 : World, (sizeOf 5).run Try.prog w0 = .ok 1 w0 := fun w0 => by kernel_rfl
  rw [run_sliceAt_slice _ _ _ _ _ _ hu, run_slice_l w0 _ _ _ _ hu .i64 (n : Int) (by omega) (by omega), he, hs]
  by_cases hcn : cap = n <;> simp [Result.andThen, sliced, hcn, Addr.add]
theorem min_two (ts : Array TypeId) (t : TypeId) (A n : Nat) (h : n = min A 16) (w : World) : (Builtin.min_ ts t #[.int .i64 (A : Int), .int .i64 16]).run Try.prog w = .ok (.int .i64 (n : Int)) w := by
  subst h
  by_cases h1 : (A : Int) < 16 <;> simp [Builtin.min_, Builtin.min2, go_sem] <;> omega
theorem Bx0.but {R : Nat → Prop} {w w' : World} {gx gc gb gw gk : Nat} {W : List (List B8)} (h : Bx0 w gx gc gb gw gk W) (k : But R w w') (h1 : ¬ R gx) (h2 : ¬ R gc) (h3 : ¬ R gb) (h4 : ¬ R gw) (h5 : ¬ R gk) : Bx0 w' gx gc gb gw gk W :=
  ⟨h.blk.but k h1, h.cph.but k h2 h3 h4, h.key.but k h5⟩
/-- What is laid so far: of the bytes zs the first j, behind them what was there. -/
def laidTo (zs : List Nat) (old B : List Value) (j : Nat) : List Value := u8s (zs.take j) ++ old.drop j ++ B
theorem laidTo_zero (zs : List Nat) (old B : List Value) : laidTo zs old B 0 = old ++ B := by simp [laidTo, u8s]
theorem laidTo_all {zs : List Nat} {old B : List Value} (h : old.length = zs.length) {j : Nat} (hj : zs.length ≤ j) : laidTo zs old B j = u8s zs ++ B := by
  unfold laidTo
  rw [List.take_of_length_le hj, List.drop_of_length_le (by omega), List.append_nil]
theorem laidTo_set {zs : List Nat} {old B : List Value} (h : old.length = zs.length) {j : Nat} (hj : j < zs.length) : (laidTo zs old B j).set j (.int .u8 (zs.getD j 0 : Nat)) = laidTo zs old B (j + 1) := by
  unfold laidTo
  have hl : (u8s (zs.take j)).length = j := by simp [u8s]; omega
  rw [List.append_assoc, List.set_append_right _ _ (by omega), hl, Nat.sub_self, List.drop_eq_getElem_cons (by omega), List.cons_append, List.set_cons_zero, take_next' zs j hj]
  simp [u8s]
theorem laidTo_at {zs : List Nat} {old B : List Value} (h : old.length = zs.length) {j : Nat} (hj : j < zs.length) : ∃ v, (laidTo zs old B j)[j]? = some v := by
  unfold laidTo
  exact ⟨_, List.getElem?_eq_getElem (by simp [u8s]; omega)⟩
/-- What memory is amid mask. -/
structure MkI (w : World) (g go gx gc gb gw gk : Nat) (T : TypeId) (W : List (List B8)) (nc : List B8) (zs : List Nat) (old B : List Value) (j : Nat) (wr : World) : Prop where
  non : Blk wr g 23 (u8s (nts nc))
  box : Bx0 wr gx gc gb gw gk W
  out : Blk wr go T (laidTo zs old B j)
  but : But (· = go) w wr
theorem MkI.grow {w : World} {g go gx gc gb gw gk : Nat} {T : TypeId} {W : List (List B8)} {nc : List B8} {zs : List Nat} {old B : List Value} {j : Nat} {wr w' : World} (i : MkI w g go gx gc gb gw gk T W nc zs old B j wr) (k : But (fun _ => False) wr w') : MkI w g go gx gc gb gw gk T W nc zs old B j w' :=
  ⟨i.non.but k (fun h => h), i.box.grow k, i.out.but k (fun h => h), i.but.then k (fun _ _ h => h.elim)⟩
set_option maxRecDepth 100000 in
set_option maxHeartbeats 2000000 in
theorem mask_any {w : World} {gx gc gb gw gk go c : Nat} {T : TypeId} {W : List (List B8)} {nc : List B8} {v : Value} {ys : List Nat} {old B : List Value} (hx : Bx0 w gx gc gb gw gk W) (hn : nc.length = 12) (hv : Bs w v ys) (hl : ys.length ≤ 10000)
    (hb : Blk w go T (old ++ B)) (hold : old.length = ys.length) (hc : ys.length ≤ c) (hne : gx ≠ go ∧ gc ≠ go ∧ gb ≠ go ∧ gw ≠ go ∧ gk ≠ go) (ho : 0 < ys.length → v.ownBlock ≠ some go) :
    Calls Try.prog 29 #[.pointer (some ⟨gx, 0, none⟩), .slice (some ⟨go, 0, none⟩) ys.length c, .agg (u8s (nts nc)).toArray, v] w fun e w' => e = .returned (.tuple #[]) ∧ Blk w' go T (u8s (gturn W nc ys) ++ B) ∧ But (· = go) w w' := by
  obtain ⟨g, hg⟩ : ∃ g, g = w.heap.size := ⟨_, rfl⟩
  have hz := zero16
  obtain ⟨Z, hZ⟩ : ∃ Z, Z = (u8s (List.replicate 16 0)).toArray := ⟨_, rfl⟩
  rw [← hZ] at hz
  obtain ⟨C, hC⟩ : ∃ C, C = (u8s (nts nc)).toArray := ⟨_, rfl⟩
  rw [← hC]
  obtain ⟨zs, hzs⟩ : ∃ zs, zs = gturn W nc ys := ⟨_, rfl⟩
  have hzl : zs.length = ys.length := by rw [hzs, gturn_len]
  obtain ⟨N, hN⟩ : ∃ N, N = ys.length := ⟨_, rfl⟩
  rw [← hN]
  have hgo : go < g := by rw [hg]; exact hb.lt
  have HI0 : Hid (MkI w g go gx gc gb gw gk T W nc zs old B 0 (w.alloc (.cells C 23))) := by
    have al : But (fun _ => False) w (w.alloc (.cells C 23)) := (But.refl _ w).alloc _
    refine ⟨?_, hx.grow al, ?_, al.mono (fun _ _ h => h.elim)⟩
    · rw [hC]; exact Blk.new hg.symm
    · rw [laidTo_zero]; exact hb.but al (fun h => h)
  have HV0 : Hid (Bs (w.alloc (.cells C 23)) v ys) := hv.but ((But.refl (fun _ => False) w).alloc _) (fun _ _ _ h => h)
  have HG := Hid.mk' hg
  have HN := Hid.mk' hn
  have HNE := Hid.mk' hne
  have HO := Hid.mk' ho
  have HNN := Hid.mk' hN
  have HZS := Hid.mk' hzs
  have HZL : Hid (zs.length = N) := by show _ = _; rw [hzl, hN]
  have HOL : Hid (old.length = zs.length) := by show _ = _; rw [hzl, hold]
  have HYB := Hid.mk' hv.1
  have HGO := Hid.mk' hgo
  have HNL : Hid ((nts nc).length = 12) := by show _ = _; rw [nts_len, hn]
  have HNB : Hid (N ≤ 10000) := by show _ ≤ _; omega
  have HC : Hid (N ≤ c) := by show _ ≤ _; omega
  have HZ := Hid.mk' hZ
  clear hg hn hne ho hN hzs hzl hold hZ hC hx hv hl hb hc hgo
  go_enter Try.func29, Try.ntmps29
  go_wp2
  rw [← HG.out]
  generalize w.alloc (.cells C 23) = W0 at *
  go_loopw [1, 3, 8] (fun vo vt nm wr => ∃ k : Nat, 16 * k < N + 16 ∧ nm = .int .u32 ((k + 2 : Nat) : Int) ∧ MkI w g go gx gc gb gw gk T W nc zs old B (min (16 * k) N) wr ∧ Bs wr vt (ys.drop (16 * k)) ∧ (16 * k < N → vt.ownBlock ≠ some go ∧ ∃ c', vo = .slice (some ⟨go, 16 * k, none⟩) (N - 16 * k) c' ∧ N - 16 * k ≤ c')) (fun _ vt _ _ => lenV vt)
  case atStart =>
    refine ⟨0, by omega, rfl, by simpa using HI0.out, by simpa using HV0.out, fun h => ⟨HO.out (by have := HNN.out; omega), c, by simp, by have := HC.out; omega⟩⟩
  case round =>
    obtain ⟨k, hk, rfl, hI, hBs, hS⟩ := hrel
    obtain ⟨ts, hts⟩ : ∃ ts, ts = ys.drop (16 * k) := ⟨_, rfl⟩
    rw [← hts] at hBs
    obtain ⟨ao, cap, rfl, -, -⟩ := hBs.gen
    obtain ⟨L, hL⟩ : ∃ L, L = ts.length := ⟨_, rfl⟩
    rw [← hL] at hBs hS ⊢
    have hLL : L = N - 16 * k := by rw [hL, hts, List.length_drop, HNN.out]
    by_cases h0 : 0 < L
    · have h0i : (0 : Int) < (L : Int) := by omega
      have hkn : 16 * k < N := by omega
      obtain ⟨hown, c', rfl, hc'⟩ := hS hkn
      clear hS
      obtain ⟨b, so, rfl, hcap⟩ : ∃ b so, ao = some ⟨b, so, none⟩ ∧ L ≤ cap := by
        obtain ⟨_, _, ⟨e, _⟩ | ⟨_, b, so, cap', e, hcap, _, _⟩⟩ := id hBs
        · rw [e] at hL; exact absurd hL (by simp; omega)
        · simp only [Value.slice.injEq] at e
          obtain ⟨rfl, e1, rfl⟩ := e
          exact ⟨b, so, rfl, by omega⟩
      have HBG : Hid (b ≠ go) := fun e => hown (by rw [e]; rfl)
      rw [show min (16 * k) N = 16 * k by omega] at hI
      rw [← hLL] at hc' ⊢
      obtain ⟨o, hoo⟩ : ∃ o, o = 16 * k := ⟨_, rfl⟩
      rw [← hoo] at hI hts hLL hkn ⊢
      obtain ⟨E, hE⟩ : ∃ E, E = ctr W nc (k + 2) := ⟨_, rfl⟩
      have HEL : Hid (E.length = 16) := by show _ = _; rw [hE, ctr_len]
      have HEN : Hid ((nts E).length = 16) := by show _ = _; rw [nts_len]; exact HEL.out
      obtain ⟨m, hm⟩ : ∃ m, m = k + 2 := ⟨_, rfl⟩
      have hmb : m < 10000 := by have := HNB.out; omega
      have HENC := Hid.mk' (encrypted_any (n := m) hI.box HN.out (by omega))
      rw [← hm] at hE ⊢
      rw [← hE] at HENC
      obtain ⟨n, hnn⟩ : ∃ n, n = min L 16 := ⟨_, rfl⟩
      have hmn := fun w => min_two #[3, 3] 3 L n hnn w
      have HNI := Hid.mk' hI.non
      have HI := Hid.mk' hI
      have HBS := Hid.mk' hBs
      have HTS := Hid.mk' hts
      have HLT := Hid.mk' hL
      have HLL := Hid.mk' hLL
      have HKN := Hid.mk' hkn
      have HOO := Hid.mk' hoo
      have HE := Hid.mk' hE
      have HM := Hid.mk' hm
      have HNM := Hid.mk' hnn
      have HCC := Hid.mk' hc'
      have HCAP := Hid.mk' hcap
      clear hI hBs hts hL hLL hkn hoo hE hm hnn hc' hcap hown HI0 HV0 h0
      go_wp2_with (first
        | (refine wpList_load_u8s Try.underlying23 iN rfl _ rfl g (nts nc) HNL.out rfl HNI.out ?_)
        | fail)
      refine Calls.mono HENC.out ?_
      rintro e w1 ⟨rfl, hb1⟩
      obtain ⟨gt, hgt⟩ : ∃ gt, gt = w1.heap.size := ⟨_, rfl⟩
      have HB1 : Hid (Blk (w1.alloc (.cells Z 44)) gt 44 (u8s (List.replicate 16 0))) := by show Blk _ _ _ _; rw [HZ.out]; exact Blk.new hgt.symm
      have HA1 : Hid (But (fun _ => False) wr (w1.alloc (.cells Z 44))) := hb1.trans ((But.refl _ w1).alloc _)
      have HLE : Hid (wr.heap.size ≤ gt) := by show _ ≤ _; rw [hgt]; exact hb1.size
      have HGT := Hid.mk' hgt
      clear hgt hb1 HENC HNI
      go_wp2_with (refine wpList_store_u8s i23 rfl _ _ rfl gt (nts E) HEN.out (by rw [HGT.out]; rfl) (by exact rfl) _ (by simp [u8s]) HB1.out ?_; intro w2 hb2 hbut2)
      rw [← HGT.out]
      have hA2 : But (fun _ => False) wr w2 := HA1.out.then hbut2 (fun j hj e => by have h := HLE.out; omega)
      have HI2 := Hid.mk' (HI.out.grow hA2)
      have HS2 := Hid.mk' (HBS.out.but hA2 (fun _ _ _ h => h))
      have HB2 := Hid.mk' hb2
      have HGG : Hid (go < gt) := by show _ < _; have h1 := HI.out.out.lt; have h2 := HLE.out; omega
      clear hA2 hb2 hbut2 HA1 HB1 HI HBS HLE HGT hmn
      clear wr
      go_loopw [25] (fun i wr => ∃ q : Nat, q ≤ n ∧ i = .int .i64 q ∧ MkI w g go gx gc gb gw gk T W nc zs old B (o + q) wr ∧ Bs wr (.slice (some ⟨b, so, none⟩) L cap) ts ∧ Blk wr gt 44 (u8s (nts E))) (fun i _ => n - (intOf i).toNat)
      case atStart => exact ⟨0, Nat.zero_le _, rfl, HI2.out, HS2.out, HB2.out⟩
      case round =>
        obtain ⟨q, hq, rfl, hI, hBs, hBk⟩ := hrel
        have HI := Hid.mk' hI
        have HBS := Hid.mk' hBs
        have HBK := Hid.mk' hBk
        clear hI hBs hBk HI2 HS2 HB2
        by_cases hlt : q < n
        · have hqi : (q : Int) < (n : Int) := by omega
          have hq16 : q < 16 := by have := HNM.out; omega
          have hqL : q < L := by have := HNM.out; omega
          have hq16i : (q : Int) < 16 := by omega
          have hqLi : (q : Int) < (L : Int) := by omega
          have hj : o + q < zs.length := by have h1 := HLL.out; have h2 := HZL.out; omega
          obtain ⟨X, hX⟩ : ∃ X : B8, X = BitVec.ofNat 8 (ts.getD q 0) := ⟨_, rfl⟩
          have hXb : b8 X = ts.getD q 0 := by rw [hX]; exact b8_of _ (HBS.out.1 _ (getD_mem ts q (by have := HLT.out; omega)))
          obtain ⟨Y, hY⟩ : ∃ Y, Y = at8 E q := ⟨_, rfl⟩
          have c1 : wr.cell? ⟨b, so + q, none⟩ = some (.int .u8 (b8 X : Nat)) := by
            obtain ⟨_, _, ⟨e, _⟩ | ⟨_, b', so', cap', e, _, _, hcell⟩⟩ := HBS.out
            · have h := HLT.out; rw [e] at h; simp at h; omega
            · simp only [Value.slice.injEq, Option.some.injEq, Addr.mk.injEq, and_true] at e
              obtain ⟨⟨rfl, rfl⟩, _, rfl⟩ := e
              rw [hXb]
              exact hcell q (by have := HLT.out; omega)
          have c2 : wr.cell? ⟨gt, q, none⟩ = some (.int .u8 (b8 Y : Nat)) := by rw [hY]; exact blk_nts HBK.out q (by rw [HEL.out]; exact hq16)
          obtain ⟨u, hu⟩ := laidTo_at (B := B) HOL.out hj
          have c3 : wr.cell? ⟨go, o + q, none⟩ = some u := by rw [HI.out.out.cell]; exact hu
          have hfr := HI.out.out.free (o + q)
          have hxor := xor_b8 X Y
          have HZV : Hid (b8 (X ^^^ Y) = zs.getD (o + q) 0) := by
            show _ = _
            have e1 : (o + q) / 16 + 2 = m := by have h1 := HOO.out; have h2 := HM.out; omega
            have e2 : (o + q) % 16 = q := by have h1 := HOO.out; omega
            have hj2 : o + q < ys.length := by have h1 := HNN.out; have h2 := HZL.out; omega
            have e3 : ys.getD (o + q) 0 = ts.getD q 0 := by rw [HTS.out]; simp [List.getD]
            rw [HZS.out, gturn_at W nc ys (o + q) hj2, strm, e1, e2, ← HE.out, e3, ← hX, ← hY]
          have HJ := Hid.mk' hj
          clear hX hXb hY hu hj
          go_wp2
          refine region_ends (l := [_, _, _, _, _, _, _, _, _, _, _]) (o := _) (by kernel_rfl) (by kernel_rfl) (by kernel_rfl) rfl (by kernel_rfl) (by kernel_rfl) ?_
          repeat (quiet_step (fail))
          refine wpQuiet_nil ?_
          intro _ hw'
          obtain ⟨nq, hw''⟩ := hw'
          subst hw''
          go_wp2
          have h := HI.out
          have hs2 : But (· = go) wr ((wr.drewN nq).setCell ⟨go, o + q, none⟩ (.int .u8 (b8 (X ^^^ Y) : Nat))) := ((But.refl (· = go) wr).drewN (n := nq)).setCell (p := ⟨go, o + q, none⟩) (fun _ => rfl) _
          have hne := HNE.out
          refine ⟨⟨q + 1, by omega, by go_num, ⟨h.non.but hs2 (fun e => by have := HGO.out; omega), h.box.but hs2 hne.1 hne.2.1 hne.2.2.1 hne.2.2.2.1 hne.2.2.2.2, ?_, h.but.trans hs2⟩, HBS.out.but hs2 (fun j hj _ => by cases hj; exact HBG.out), HBK.out.but hs2 (fun e => by have := HGG.out; omega)⟩, by simp [intOf]; omega⟩
          rw [← Nat.add_assoc, ← laidTo_set HOL.out HJ.out, ← HZV.out]
          exact h.out.set (o + q) _
        · have hqn : q = n := by omega
          subst hqn
          have hqL : q ≤ L := by have := HNM.out; omega
          have hs1 := fun w0 => slice_low (b := go) (so := o) (m := L) (cap := c') (n := q) hqL w0
          obtain ⟨P1, hP1⟩ : ∃ P1, P1 = Value.slice (some (if c' = q then (⟨go, o, none⟩ : Addr) else ⟨go, o + q, none⟩)) (L - q) (c' - q) := ⟨_, rfl⟩
          rw [← hP1] at hs1
          obtain ⟨p', hsl, hbs', hown', so', cap', hp'⟩ := HBS.out.cut HLT.out.symm (by have := HNM.out; omega) hqL HCAP.out
          have HP1 := Hid.mk' hP1
          have HB' := Hid.mk' hbs'
          have HOW := Hid.mk' hown'
          have HP' := Hid.mk' hp'
          clear hP1 hbs' hown' hp'
          go_wp2
          go_quiet (fail)
          go_wp2
          have hdrop : ts.drop q = ys.drop (16 * (k + 1)) := by
            have h1 := HLL.out
            have h2 := HNM.out
            have h3 := HOO.out
            have h4 := HNN.out
            rw [HTS.out, List.drop_drop]
            by_cases h16 : 16 ≤ L
            · rw [show o + q = 16 * (k + 1) by omega]
            · rw [List.drop_of_length_le (by omega), List.drop_of_length_le (by omega)]
          refine ⟨⟨k + 1, by have h1 := HOO.out; have h2 := HKN.out; omega, ?_, ?_, ?_, ?_⟩, ?_⟩
          · have := HM.out
            go_num
          · rw [show min (16 * (k + 1)) N = o + q by have h1 := HLL.out; have h2 := HNM.out; have h3 := HOO.out; have h4 := HKN.out; omega]
            exact HI.out.grow ((But.refl _ wr).drewN)
          · rw [← hdrop]
            exact HB'.out.but ((But.refl (fun _ => False) wr).drewN) (fun _ _ _ h => h)
          · intro h
            have h1 := HLL.out
            have h2 := HNM.out
            have h3 := HOO.out
            have h4 := HCC.out
            refine ⟨?_, c' - q, ?_, by omega⟩
            · rw [HOW.out]
              intro e
              cases e
              exact HBG.out rfl
            · rw [HP1.out, if_neg (by omega), show o + q = 16 * (k + 1) by omega, show L - q = N - 16 * (k + 1) by omega]
          · rw [HP'.out]
            show L - q < L
            have := HNM.out
            omega
    · have hL0 : L = 0 := by omega
      subst hL0
      go_wp2
      go_end0
      rw [← HZS.out]
      have h := hI.out
      rw [laidTo_all HOL.out (by rw [HZL.out]; omega)] at h
      exact ⟨rfl, h, hI.but⟩
end Go.Proofs.Ythmjdebnjcopnaa
/- gcm: a box in memory; New. -/
namespace Go.Proofs.Ythmjdebnjcopnaa
open Go.RowKit

/-- A box of these words, all of it below top. -/
def Bx (w : World) (top gx : Nat) (W : List (List B8)) : Prop := ∃ gc gb gw gk, Bx0 w gx gc gb gw gk W ∧ gx < top ∧ gc < top ∧ gb < top ∧ gw < top ∧ gk < top
theorem Bx.but {R : Nat → Prop} {w w' : World} {top gx : Nat} {W : List (List B8)} (k : Bx w top gx W) (b : But R w w') (hr : ∀ j, j < top → ¬ R j) : Bx w' top gx W := by
  obtain ⟨gc, gb, gw, gk, h, h1, h2, h3, h4, h5⟩ := k
  exact ⟨gc, gb, gw, gk, h.but b (hr _ h1) (hr _ h2) (hr _ h3) (hr _ h4) (hr _ h5), h1, h2, h3, h4, h5⟩
theorem Bx.mono {w : World} {top top' gx : Nat} {W : List (List B8)} (k : Bx w top gx W) (h : top ≤ top') : Bx w top' gx W := by
  obtain ⟨gc, gb, gw, gk, h0, h1, h2, h3, h4, h5⟩ := k
  exact ⟨gc, gb, gw, gk, h0, by omega, by omega, by omega, by omega, by omega⟩
theorem Bx0.lts {w : World} {gx gc gb gw gk : Nat} {W : List (List B8)} (h : Bx0 w gx gc gb gw gk W) : gx < w.heap.size ∧ gc < w.heap.size ∧ gb < w.heap.size ∧ gw < w.heap.size ∧ gk < w.heap.size :=
  ⟨h.blk.lt, h.cph.blk.lt, h.cph.bxs.lt, h.cph.wds.elim (fun _ hT => hT.lt), h.key.lt⟩
theorem own_lt {w : World} {v : Value} {zs : List Nat} (h : Bs w v zs) (h0 : 0 < zs.length) : ∀ j, v.ownBlock = some j → j < w.heap.size := by
  obtain ⟨_, _, ⟨e, _⟩ | ⟨_, b, so, cap', rfl, _, hb, _⟩⟩ := h
  · rw [e] at h0; exact absurd h0 (by decide)
  · intro j hj
    cases hj
    exact hb
set_option maxRecDepth 100000 in
set_option maxHeartbeats 2000000 in
theorem gnew_any {w : World} {v : Value} {key : List B8} (hv : Bs w v (nts key)) (hk : key.length = 16 ∨ key.length = 32) :
    Calls Try.prog 9 #[v] w fun e w' => ∃ gx, e = .returned (.tuple #[.pointer (some ⟨gx, 0, none⟩), .int .i64 0]) ∧ Bx w' w'.heap.size gx (words key) ∧ But (fun _ => False) w w' := by
  have HN := Hid.mk' (anew_any hv hk)
  obtain ⟨W, hW⟩ : ∃ W, W = words key := ⟨_, rfl⟩
  rw [← hW] at HN ⊢
  clear hv hk hW
  go_enter Try.func9, Try.ntmps9
  go_wp2_with fail
  refine Calls.mono HN.out ?_
  rintro e w1 ⟨gc, gb, gw, rfl, hc1, -, hb1⟩
  have HE := Hid.mk' (encrypt_any (b := gzero) hc1 (by simp [gzero]))
  rw [lit16] at HE
  have HC1 := Hid.mk' hc1
  have HT1 := Hid.mk' hb1
  clear hc1 hb1 HN
  go_wp2_with fail
  refine Calls.mono HE.out ?_
  rintro e w2 ⟨rfl, hb2⟩
  have HP := Hid.mk' (pnew_any (w := w2) (h := enc W gzero) (enc_len _ _))
  have HC2 := Hid.mk' (HC1.out.grow hb2)
  have HT2 := Hid.mk' (HT1.out.trans hb2)
  obtain ⟨A, hA⟩ : ∃ A, A = (u8s (nts (enc W gzero))).toArray := ⟨_, rfl⟩
  rw [← hA] at HP ⊢
  clear hb2 HC1 HT1 HE hA
  go_wp2_with fail
  refine Calls.mono HP.out ?_
  rintro e w3 ⟨gk, rfl, hk3, -, hb3⟩
  have HC3 := Hid.mk' (HC2.out.grow hb3)
  have HT3 := Hid.mk' (HT2.out.trans hb3)
  have HK3 := Hid.mk' hk3
  clear hb3 hk3 HC2 HT2 HP
  go_wp2
  go_ret2
  have al : But (fun _ => False) w3 (w3.alloc (.cells #[.pointer (some ⟨gc, 0, none⟩), .pointer (some ⟨gk, 0, none⟩)] 55)) := (But.refl _ w3).alloc _
  have h0 : Bx0 (w3.alloc (.cells #[.pointer (some ⟨gc, 0, none⟩), .pointer (some ⟨gk, 0, none⟩)] 55)) w3.heap.size gc gb gw gk W := ⟨Blk.new (L := [_, _]) rfl, HC3.out.grow al, HK3.out.but al (fun h => h)⟩
  exact ⟨w3.heap.size, rfl, ⟨gc, gb, gw, gk, h0, h0.lts⟩, HT3.out.trans al⟩
theorem gnew_none {w : World} {v : Value} {xs : List Nat} (hv : Bs w v xs) (h16 : xs.length ≠ 16) (h32 : xs.length ≠ 32) :
    Calls Try.prog 9 #[v] w fun e w' => e = .returned (.tuple #[.pointer none, .int .i64 1]) ∧ But (fun _ => False) w w' := by
  have HN := Hid.mk' (anew_none hv h16 h32)
  clear hv h16 h32
  go_enter Try.func9, Try.ntmps9
  go_wp2_with fail
  refine Calls.mono HN.out ?_
  rintro e w1 ⟨rfl, hw⟩
  have hw' := hw.symm
  subst hw'
  clear hw HN
  go_wp2
  go_ret2
  exact ⟨rfl, But.refl _ _⟩
theorem gseal_nil {w : World} {nc : List B8} {v1 v2 : Value} : Calls Try.prog 14 #[.pointer none, .agg (u8s (nts nc)).toArray, v1, v2] w fun e w' => ∃ v', e = .returned v' ∧ Bs w' v' [] ∧ But (fun _ => False) w w' := by
  obtain ⟨C, hC⟩ : ∃ C, C = (u8s (nts nc)).toArray := ⟨_, rfl⟩
  rw [← hC]
  clear hC
  go_enter Try.func14, Try.ntmps14
  go_wp2_with fail
  refine Calls.mono pmade_nil ?_
  rintro e w1 ⟨rfl, hw⟩
  have hw' := hw.symm
  subst hw'
  clear hw
  go_wp2
  go_ret
  exact ⟨_, rfl, Bs.nil _, (But.refl _ w).alloc _⟩
theorem gopen_nil {w : World} {nc : List B8} {v1 v2 : Value} : Calls Try.prog 18 #[.pointer none, .agg (u8s (nts nc)).toArray, v1, v2] w fun e w' => ∃ v', e = .returned (.tuple #[v', .int .i64 5]) ∧ Bs w' v' [] ∧ But (fun _ => False) w w' := by
  obtain ⟨C, hC⟩ : ∃ C, C = (u8s (nts nc)).toArray := ⟨_, rfl⟩
  rw [← hC]
  clear hC
  go_enter Try.func18, Try.ntmps18
  go_wp2_with fail
  refine Calls.mono pmade_nil ?_
  rintro e w1 ⟨rfl, hw⟩
  have hw' := hw.symm
  subst hw'
  clear hw
  go_wp2
  go_ret2
  exact ⟨_, rfl, Bs.nil _, (But.refl _ w).alloc _⟩
theorem gopen_short {w : World} {top gx : Nat} {W : List (List B8)} {nc : List B8} {v1 v2 : Value} {xs s : List Nat} (hx : Bx w top gx W) (_hn : nc.length = 12) (_h1 : Bs w v1 xs) (h2 : Bs w v2 s) (hl : s.length < 16) :
    Calls Try.prog 18 #[.pointer (some ⟨gx, 0, none⟩), .agg (u8s (nts nc)).toArray, v1, v2] w fun e w' => e = .returned (.tuple #[.slice none 0 0, .int .i64 2]) ∧ But (fun _ => False) w w' := by
  obtain ⟨gc, gb, gw, gk, h0, -⟩ := hx
  obtain ⟨C, hC⟩ : ∃ C, C = (u8s (nts nc)).toArray := ⟨_, rfl⟩
  rw [← hC]
  obtain ⟨ao, c, rfl, -, -⟩ := h2.gen
  obtain ⟨L, hL⟩ : ∃ L, L = s.length := ⟨_, rfl⟩
  rw [← hL] at hl ⊢
  have HM := Hid.mk' (pmade_any (h0.grow ((But.refl (fun _ => False) w).alloc (.cells C 23))))
  have hli : (L : Int) < 16 := by omega
  clear hC hL h2 h0 hl _h1 _hn
  go_enter Try.func18, Try.ntmps18
  go_wp2_with fail
  refine Calls.mono HM.out ?_
  rintro e w1 ⟨rfl, hw⟩
  have hw' := hw.symm
  subst hw'
  clear hw HM
  go_wp2
  go_ret2
  exact ⟨rfl, (But.refl _ w).alloc _⟩
end Go.Proofs.Ythmjdebnjcopnaa
/- gcm: Seal. -/
namespace Go.Proofs.Ythmjdebnjcopnaa
open Go.RowKit

theorem make_upto (w : World) (n : Nat) (h : n ≤ 100000) : Sem.run Try.prog (Instr.makeSlice 22 (.int .i64 (n : Int)) (.int .i64 (n : Int))) w = .ok (.slice (some ⟨w.heap.size, 0, none⟩) n n) (w.alloc (.cells (u8s (List.replicate n 0)).toArray 5)) := by
  obtain ⟨i, hi, hz, hs, hby⟩ := info_parts u8info
  have h1 := run_makeSlice (P := Try.prog) (w := w) 22 5 i (.int .u8 0) Try.underlying22 hi hz .i64 .i64 (n : Int) (n : Int) (by omega) (Int.le_refl _) (by rw [hs]; omega) (by rw [hby]; omega) (by omega)
  have e : (n : Int).toNat * i.size = n := by rw [hs]; omega
  rw [e, made_bytes] at h1
  exact h1
theorem slice_hi {b so m cap n : Nat} (hn : n ≤ cap) (w0 : World) :
    (Instr.sliceAt 22 (.slice (some ⟨b, so, none⟩) m cap) none (some (.int .i64 (n : Int))) none).run Try.prog w0 = .ok (.slice (some ⟨b, so, none⟩) n cap) w0 := by
  have hn' : (n : Int) ≤ (cap : Int) := by omega
  go_simp
set_option maxRecDepth 100000 in
set_option maxHeartbeats 2000000 in
theorem gseal_any {w : World} {top gx : Nat} {W : List (List B8)} {nc : List B8} {v1 v2 : Value} {xs ys : List Nat} (hx : Bx w top gx W) (_hl : W.length = 44 ∨ W.length = 60) (hn : nc.length = 12) (h1 : Bs w v1 xs) (h2 : Bs w v2 ys) (l1 : xs.length ≤ 10000) (l2 : ys.length ≤ 10000) :
    Calls Try.prog 14 #[.pointer (some ⟨gx, 0, none⟩), .agg (u8s (nts nc)).toArray, v1, v2] w fun e w' => ∃ v', e = .returned v' ∧ Ow w' w.heap.size v' (gseal W nc xs ys) ∧ But (fun _ => False) w w' := by
  obtain ⟨gc, gb, gw, gk, h0, -⟩ := hx
  obtain ⟨g, hg⟩ : ∃ g, g = w.heap.size := ⟨_, rfl⟩
  have hz := zero16
  obtain ⟨Z, hZ⟩ : ∃ Z, Z = (u8s (List.replicate 16 0)).toArray := ⟨_, rfl⟩
  rw [← hZ] at hz
  obtain ⟨C, hC⟩ : ∃ C, C = (u8s (nts nc)).toArray := ⟨_, rfl⟩
  rw [← hC]
  obtain ⟨N, hN⟩ : ∃ N, N = ys.length := ⟨_, rfl⟩
  obtain ⟨M, hM⟩ : ∃ M, M = N + 16 := ⟨_, rfl⟩
  obtain ⟨W0, hW0⟩ : ∃ W0, W0 = w.alloc (.cells C 23) := ⟨_, rfl⟩
  obtain ⟨W1, hW1⟩ : ∃ W1, W1 = W0.alloc (.cells (u8s (List.replicate M 0)).toArray 5) := ⟨_, rfl⟩
  have t0 : But (fun _ => False) w W0 := by rw [hW0]; exact (But.refl _ w).alloc _
  have t1 : But (fun _ => False) W0 W1 := by rw [hW1]; exact (But.refl _ W0).alloc _
  have hs0 : W0.heap.size = g + 1 := by rw [hW0, hg]; simp
  have hn0 : Blk W0 g 23 (u8s (nts nc)) := by rw [hW0, hC]; exact Blk.new hg.symm
  have hM1 : Blk W1 (g + 1) 5 (u8s (List.replicate N 0) ++ u8s (List.replicate 16 0)) := by
    rw [hW1]
    have e : u8s (List.replicate M 0) = u8s (List.replicate N 0) ++ u8s (List.replicate 16 0) := by rw [hM]; simp [u8s, ← List.replicate_append_replicate]
    rw [e]
    exact Blk.new hs0
  have t01 := t0.trans t1
  have hlts := h0.lts
  have HM := Hid.mk' (pmade_any (h0.grow t0))
  have hmk := make_upto W0 M (by omega)
  rw [hs0, ← hW1] at hmk
  have HMK := Hid.mk' (mask_any (go := g + 1) (c := M) (old := u8s (List.replicate N 0)) (h0.grow t01) hn (h2.but t01 (fun _ _ _ h => h)) l2 hM1 (by simp [u8s, hN]) (by omega) ⟨by omega, by omega, by omega, by omega, by omega⟩
    (fun h e => by have := own_lt h2 h _ e; omega))
  rw [← hN] at HMK
  have hsl := fun w0 => slice_hi (b := g + 1) (so := 0) (m := M) (cap := M) (n := N) (by omega) w0
  obtain ⟨ao2, c2, rfl, -, -⟩ := h2.gen
  rw [← hN] at HMK ⊢
  have HH := Hid.mk' (h0.grow t01)
  have H1 := Hid.mk' (h1.but t01 (fun _ _ _ h => h))
  have HX := Hid.mk' h0
  have HN0 := Hid.mk' (hn0.but t1 (fun h => h))
  have HNN := Hid.mk' hn
  have HNL : Hid ((nts nc).length = 12) := by show _ = _; rw [nts_len, hn]
  have HG := Hid.mk' hg
  have HT := Hid.mk' t01
  have HW0 := Hid.mk' hW0
  have HLTS := Hid.mk' hlts
  have HL1 := Hid.mk' l1
  have HL2 := Hid.mk' l2
  have HN := Hid.mk' hN
  have HMM := Hid.mk' hM
  have HZ := Hid.mk' hZ
  have hNb : N ≤ 10000 := by omega
  have hMi : (N : Int) + 16 = (M : Int) := by omega
  have H1w := Hid.mk' h1
  clear hg hW0 hW1 t0 t1 hs0 hn0 hM1 t01 hlts hZ hC h0 h1 h2 hn l1 l2 hN hM _hl
  go_enter Try.func14, Try.ntmps14
  go_wp2_with fail
  rw [← HW0.out, ← HG.out]
  refine Calls.mono HM.out ?_
  rintro e w' ⟨rfl, hw⟩
  have hw' := hw.symm
  subst hw'
  clear hw HM
  go_wp2_with (first
    | (refine wpList_load_u8s Try.underlying23 iN rfl _ rfl g (nts nc) HNL.out rfl HN0.out ?_)
    | fail)
  refine Calls.mono HMK.out ?_
  rintro e w2 ⟨rfl, hb2, hbut2⟩
  obtain ⟨zs, hzs⟩ : ∃ zs, zs = gturn W nc ys := ⟨_, rfl⟩
  rw [← hzs] at hb2
  have hzl : zs.length = N := by rw [hzs, gturn_len, HN.out]
  have hzb : ∀ z ∈ zs, z < 256 := by rw [hzs]; exact gturn_lt W nc ys
  have hMM := HMM.out
  have hT2 : Bs w2 (.slice (some ⟨g + 1, 0, none⟩) N M) zs := by
    have h := (Ow.shut (base := 0) (cap := M) hb2 (Nat.zero_le _) hzb (by omega) (by rw [hMM, hzl]; simp [u8s]) (by omega) (by unfold maxLen; omega)).bs
    rw [hzl] at h
    exact h
  have hLTS := HLTS.out
  have hGG := HG.out
  have hX2 := HH.out.but hbut2 (show ¬ (gx = g + 1) by omega) (show ¬ (gc = g + 1) by omega) (show ¬ (gb = g + 1) by omega) (show ¬ (gw = g + 1) by omega) (show ¬ (gk = g + 1) by omega)
  have HTAG := Hid.mk' (ptag_any hX2 HNN.out (H1.out.step hbut2 (fun h j hj => by have := own_lt H1w.out h j hj; omega)) hT2 HL1.out (by omega))
  have HN2 := Hid.mk' (HN0.out.but hbut2 (show ¬ (g = g + 1) by omega))
  have HB2 := Hid.mk' hb2
  have HT2 := Hid.mk' (HT.out.then hbut2 (fun j hj e => by omega))
  have HZS := Hid.mk' hzs
  have HZL := Hid.mk' hzl
  have HZB := Hid.mk' hzb
  clear hzs hzl hzb hMM hT2 hLTS hGG hX2 hb2 hbut2 HMK HN0 HH H1 H1w HT HLTS hmk hsl HW0
  go_wp2_with (first
    | (refine wpList_load_u8s Try.underlying23 iN rfl _ rfl g (nts nc) HNL.out rfl HN2.out ?_)
    | fail)
  refine Calls.mono HTAG.out ?_
  rintro e w3 ⟨rfl, hb3⟩
  obtain ⟨D, hD⟩ : ∃ D, D = nts (gtag W nc xs zs) := ⟨_, rfl⟩
  rw [← hD]
  have HDL : Hid (D.length = 16) := by show _ = _; rw [hD, nts_len, gtag_len]
  have HDB : Hid (∀ z ∈ D, z < 256) := by show ∀ z ∈ D, z < 256; rw [hD]; exact nts_lt _
  have HD := Hid.mk' hD
  obtain ⟨gt, hgt⟩ : ∃ gt, gt = w3.heap.size := ⟨_, rfl⟩
  have HB3 : Hid (Blk (w3.alloc (.cells Z 44)) gt 44 (u8s (List.replicate 16 0))) := by show Blk _ _ _ _; rw [HZ.out]; exact Blk.new hgt.symm
  have HA3 : Hid (But (fun _ => False) w2 (w3.alloc (.cells Z 44))) := hb3.trans ((But.refl _ w3).alloc _)
  have HLE : Hid (w2.heap.size ≤ gt) := by show _ ≤ _; rw [hgt]; exact hb3.size
  have HGT := Hid.mk' hgt
  clear hD hgt hb3 HTAG HN2
  go_upto_region 7 with (refine wpList_store_u8s i23 rfl _ _ rfl gt D HDL.out (by rw [HGT.out]; rfl) (by exact rfl) _ (by simp [u8s]) HB3.out ?_; intro w4 hb4 hbut4)
  rw [← HGT.out]
  have hA4 : But (fun _ => False) w2 w4 := HA3.out.then hbut4 (fun j hj e => by have h := HLE.out; omega)
  have HB4 := Hid.mk' (HB2.out.but hA4 (fun h => h))
  have HT4 := Hid.mk' (HT2.out.trans hA4)
  have HG4 := Hid.mk' hb4
  have HS4 : Hid (∀ w0 : World, (Instr.sliceAt 22 (.slice (some ⟨g + 1, 0, none⟩) M M) (some (.int .i64 (N : Int))) none none).run Try.prog w0 = .ok (.slice (some ⟨g + 1, N, none⟩) 16 16) w0) := by
    intro w0
    have hMM := HMM.out
    have h := slice_low (b := g + 1) (so := 0) (m := M) (cap := M) (n := N) (by omega) w0
    rw [if_neg (by omega), show M - N = 16 by omega, Nat.zero_add] at h
    exact h
  clear hA4 hb4 hbut4 HA3 HB3 HB2 HT2 HLE HGT
  refine region_class (l := [_, _, _, _, _]) (o := _) (fun w' => But (fun _ => False) w4 w') (by kernel_rfl) (by kernel_rfl) (by kernel_rfl) rfl (by kernel_rfl) (by kernel_rfl) ((But.refl _ w4).drew) ?_
  refine class_val _ rfl (fun w' _ => rfl) ?_
  intro K hK; go_simp; refine hK _ ?_; clear hK K
  refine class_val _ rfl (fun w' _ => rfl) ?_
  intro K hK; go_simp; refine hK _ ?_; clear hK K
  refine class_val (.int .i64 (N : Int)) rfl (fun w' _ => by go_simp) ?_
  intro K hK; go_simp; refine hK _ ?_; clear hK K
  refine class_val (.slice (some ⟨g + 1, N, none⟩) 16 16) rfl (fun w' _ => by have hs := HS4.out w'; go_simp) ?_
  intro K hK; go_simp; refine hK _ ?_; clear hK K
  refine class_val (.slice (some ⟨gt, 0, none⟩) 16 16) rfl (fun w' _ => by have hs := slice16 w' gt; go_simp) ?_
  intro K hK; go_simp; refine hK _ ?_; clear hK K
  refine wpQuiet_nil ?_
  intro w5 hw5
  have hG5 := HG4.out.but hw5 (fun h => h)
  have hB5 : Blk w5 (g + 1) 5 (u8s zs ++ u8s (List.replicate 16 0) ++ []) := by rw [List.append_nil]; exact HB4.out.but hw5 (fun h => h)
  have hcp := run_copy_blk (off := N) (dLen := 16) (dCap := 16) (sCap := 16) (b := gt) (so := 0) (n := 16) (ys := D) 3 hB5 (by simp [u8s, HZL.out]) (by simp [u8s]) (by rw [HDL.out]; rfl) (fun i hi => by rw [hG5.cell, Nat.zero_add, u8s_get _ i hi])
  rw [List.take_of_length_le (by rw [HDL.out]; exact Nat.le_refl _), HDL.out, List.append_nil] at hcp
  have HB6 : Hid (Blk (w5.setRow (g + 1) (u8s zs ++ u8s D).toArray) (g + 1) 5 (u8s (zs ++ D) ++ [])) := by
    have e : u8s (zs ++ D) ++ [] = u8s zs ++ u8s D := by simp [u8s]
    rw [e]
    exact hB5.row _
  have HT6 : Hid (But (fun _ => False) w (w5.setRow (g + 1) (u8s zs ++ u8s D).toArray)) := by
    have h : But (· = g + 1) w5 (w5.setRow (g + 1) (u8s zs ++ u8s D).toArray) := (But.refl (· = g + 1) w5).setRow (fun _ => rfl) _
    exact (HT4.out.trans hw5).then h (fun j hj e => by have := HG.out; omega)
  generalize w5.setRow (g + 1) (u8s zs ++ u8s D).toArray = w6 at *
  clear hG5 hB5 hw5 HB4 HT4 HG4 HS4
  go_wp2
  go_ret
  refine ⟨_, rfl, ?_, HT6.out⟩
  have hMM := HMM.out
  have hl : (zs ++ D).length = M := by rw [List.length_append, HZL.out, HDL.out, hMM]
  have h := Ow.shut (base := w.heap.size) (cap := M) HB6.out (by have := HG.out; omega) (by
    intro z hz
    rcases List.mem_append.1 hz with h | h
    · exact HZB.out z h
    · exact HDB.out z h) (by omega) (by rw [hl, List.length_nil, Nat.sub_self]) (by omega) (by unfold maxLen; omega)
  rw [hl] at h
  unfold gseal
  rw [← HZS.out, ← HD.out]
  exact h
end Go.Proofs.Ythmjdebnjcopnaa
/- gcm: Open. -/
namespace Go.Proofs.Ythmjdebnjcopnaa
open Go.RowKit

set_option maxRecDepth 100000 in
set_option maxHeartbeats 2000000 in
theorem gopen_any {w : World} {top gx : Nat} {W : List (List B8)} {nc : List B8} {v1 v2 : Value} {xs s : List Nat} (hx : Bx w top gx W) (_hl : W.length = 44 ∨ W.length = 60) (hn : nc.length = 12) (h1 : Bs w v1 xs) (h2 : Bs w v2 s) (l1 : xs.length ≤ 10000) (l2 : s.length ≤ 10000) :
    Calls Try.prog 18 #[.pointer (some ⟨gx, 0, none⟩), .agg (u8s (nts nc)).toArray, v1, v2] w fun e w' => ∃ v', e = .returned (.tuple #[v', .int .i64 (gcode W nc xs s)]) ∧ Bs w' v' (gplain W nc xs s) ∧ But (fun _ => False) w w' := by
  by_cases hsh : s.length < 16
  · rw [gcode_short hsh, gplain_short hsh]
    refine (gopen_short hx hn h1 h2 hsh).mono ?_
    rintro e w' ⟨rfl, hb⟩
    exact ⟨_, rfl, Bs.nil _, hb⟩
  obtain ⟨gc, gb, gw, gk, h0, -⟩ := hx
  obtain ⟨g, hg⟩ : ∃ g, g = w.heap.size := ⟨_, rfl⟩
  have hz := zero16
  obtain ⟨Z, hZ⟩ : ∃ Z, Z = (u8s (List.replicate 16 0)).toArray := ⟨_, rfl⟩
  rw [← hZ] at hz
  obtain ⟨C, hC⟩ : ∃ C, C = (u8s (nts nc)).toArray := ⟨_, rfl⟩
  rw [← hC]
  obtain ⟨W0, hW0⟩ : ∃ W0, W0 = w.alloc (.cells C 23) := ⟨_, rfl⟩
  have t0 : But (fun _ => False) w W0 := by rw [hW0]; exact (But.refl _ w).alloc _
  have hn0 : Blk W0 g 23 (u8s (nts nc)) := by rw [hW0, hC]; exact Blk.new hg.symm
  obtain ⟨M, hM⟩ : ∃ M, M = s.length := ⟨_, rfl⟩
  obtain ⟨N, hN⟩ : ∃ N, N = M - 16 := ⟨_, rfl⟩
  have hM16 : M = N + 16 := by omega
  obtain ⟨b, so, cap, rfl, hcap⟩ : ∃ b so cap, v2 = .slice (some ⟨b, so, none⟩) M cap ∧ M ≤ cap := by
    obtain ⟨_, _, ⟨e, _⟩ | ⟨_, b, so, cap', e, hcap, _, _⟩⟩ := id h2
    · rw [e] at hsh; exact absurd (by decide) hsh
    · exact ⟨b, so, cap', by rw [hM]; exact e, by omega⟩
  have hf : Bs w (.slice (some ⟨b, so, none⟩) N cap) (s.take N) := h2.front (by omega) (by intro h; cases h)
  have hfl : (s.take N).length = N := by rw [List.length_take]; omega
  obtain ⟨p', hcut, hbs', -, -⟩ := h2.cut hM.symm (by omega) (show N ≤ M by omega) hcap
  have hsl := fun w0 => slice_hi (b := b) (so := so) (m := M) (cap := cap) (n := N) (by omega) w0
  have HM := Hid.mk' (pmade_any (h0.grow t0))
  have HTAG := Hid.mk' (ptag_any (h0.grow t0) hn (h1.but t0 (fun _ _ _ h => h)) (hf.but t0 (fun _ _ _ h => h)) l1 (by omega))
  have HX0 := Hid.mk' (h0.grow t0)
  have HF := Hid.mk' (hf.but t0 (fun _ _ _ h => h))
  have HLAST := Hid.mk' (hbs'.but t0 (fun _ _ _ h => h))
  have HCUT := Hid.mk' hcut
  have HN0 := Hid.mk' hn0
  have HNN := Hid.mk' hn
  have HNL : Hid ((nts nc).length = 12) := by show _ = _; rw [nts_len, hn]
  have HG := Hid.mk' hg
  have HT := Hid.mk' t0
  have HW0 := Hid.mk' hW0
  have HMM := Hid.mk' hM16
  have HM0 := Hid.mk' hM
  have HFL := Hid.mk' hfl
  have HZ := Hid.mk' hZ
  have HSH := Hid.mk' hsh
  have hNb : N ≤ 10000 := by omega
  have hNi : (M : Int) - 16 = (N : Int) := by omega
  have hMi : ¬ ((M : Int) < 16) := by omega
  have hMb : (M : Int) ≤ 10000 := by omega
  have HBL : Hid (b < g) := by show _ < _; rw [hg]; exact own_lt h2 (by omega) b rfl
  clear hg hW0 t0 hn0 hZ hC h0 h1 h2 hn l1 l2 hM hN hM16 hcap hf hfl hcut hbs' _hl hsh
  go_enter Try.func18, Try.ntmps18
  go_wp2_with fail
  rw [← HW0.out, ← HG.out]
  refine Calls.mono HM.out ?_
  rintro e w' ⟨rfl, hw⟩
  have hw' := hw.symm
  subst hw'
  clear hw HM
  go_wp2_with (first
    | (refine wpList_load_u8s Try.underlying23 iN rfl _ rfl g (nts nc) HNL.out rfl HN0.out ?_)
    | fail)
  refine Calls.mono HTAG.out ?_
  rintro e w3 ⟨rfl, hb3⟩
  obtain ⟨D, hD⟩ : ∃ D, D = nts (gtag W nc xs (s.take N)) := ⟨_, rfl⟩
  rw [← hD]
  have HDL : Hid (D.length = 16) := by show _ = _; rw [hD, nts_len, gtag_len]
  have HDB : Hid (∀ z ∈ D, z < 256) := by show ∀ z ∈ D, z < 256; rw [hD]; exact nts_lt _
  have HD := Hid.mk' hD
  obtain ⟨gt, hgt⟩ : ∃ gt, gt = w3.heap.size := ⟨_, rfl⟩
  have HB3 : Hid (Blk (w3.alloc (.cells Z 44)) gt 44 (u8s (List.replicate 16 0))) := by show Blk _ _ _ _; rw [HZ.out]; exact Blk.new hgt.symm
  have HA3 : Hid (But (fun _ => False) W0 (w3.alloc (.cells Z 44))) := hb3.trans ((But.refl _ w3).alloc _)
  have HLE : Hid (W0.heap.size ≤ gt) := by show _ ≤ _; rw [hgt]; exact hb3.size
  have HGT := Hid.mk' hgt
  clear hD hgt hb3 HTAG
  go_upto_region 8 with (refine wpList_store_u8s i23 rfl _ _ rfl gt D HDL.out (by rw [HGT.out]; rfl) (by exact rfl) _ (by simp [u8s]) HB3.out ?_; intro w4 hb4 hbut4)
  rw [← HGT.out]
  have hA4 : But (fun _ => False) W0 w4 := HA3.out.then hbut4 (fun j hj e => by have h := HLE.out; omega)
  have HT4 := Hid.mk' hA4
  have HDS : Hid (Bs w4 (.slice (some ⟨gt, 0, none⟩) 16 16) D) := by
    refine ⟨HDB.out, by rw [HDL.out]; decide, .inr ⟨by rw [HDL.out]; decide, gt, 0, 16, by rw [HDL.out], by rw [HDL.out]; decide, hb4.lt, fun i hi => ?_⟩⟩
    rw [hb4.cell, Nat.zero_add, u8s_get _ i hi]
  have HL4 := Hid.mk' (HLAST.out.but hA4 (fun _ _ _ h => h))
  have HGOOD : Hid (good W nc xs s = decide (D = s.drop N)) := by
    show _ = _
    unfold good
    have h1 := HM0.out
    have h2 := HMM.out
    rw [show s.length - 16 = N by omega, ← HD.out, Bool.eq_iff_iff, decide_eq_true_eq, decide_eq_true_eq]
    exact ⟨fun h => h.2, fun h => ⟨by omega, h⟩⟩
  clear hA4 hb4 hbut4 HA3 HB3 HLE HGT
  by_cases hgd : D = s.drop N
  · have HGD : Hid (decide (D = s.drop N) = true) := decide_eq_true hgd
    have HGG : Hid (good W nc xs s = true) := by show _ = _; rw [HGOOD.out]; exact HGD.out
    clear hgd HGOOD
    refine region_same (l := [_, _, _, _, _, _]) (fun w' => But (fun _ => False) w4 w') (by kernel_rfl) (by kernel_rfl) ((But.refl _ w4).drew) ?_
    refine guard_val (.slice (some ⟨gt, 0, none⟩) 16 16) rfl (fun w' _ => by have hs := slice16 w' gt; go_simp) ?_
    intro K hK; go_simp; refine hK _ ?_; clear hK K
    refine guard_val _ rfl (fun w' _ => rfl) ?_
    intro K hK; go_simp; refine hK _ ?_; clear hK K
    refine guard_val _ rfl (fun w' _ => rfl) ?_
    intro K hK; go_simp; refine hK _ ?_; clear hK K
    refine guard_val p' rfl (fun w' _ => by have hs := HCUT.out w'; go_simp) ?_
    intro K hK; go_simp; refine hK _ ?_; clear hK K
    refine guard_call (.bool true) 33 #[.slice (some ⟨gt, 0, none⟩) 16 16, p'] rfl (fun w' _ => by kernel_rfl) (fun w' hw' => (msame_any (HDS.out.but hw' (fun _ _ _ h => h)) (HL4.out.but hw' (fun _ _ _ h => h))).mono (fun r w'' h => ⟨by rw [h.1, HGD.out], by obtain ⟨d, rfl⟩ := h.2; exact hw'.drewN⟩)) ?_
    intro K hK; go_simp; refine hK _ ?_; clear hK K
    refine guard_val (.bool false) rfl (fun w' _ => rfl) ?_
    intro K hK; go_simp; refine hK _ ?_; clear hK K
    refine wpQuiet_nil ?_
    intro w5 hw5
    have hX5 := (HX0.out.grow HT4.out).grow hw5
    have hs5 : W0.heap.size ≤ w5.heap.size := (HT4.out.trans hw5).size
    have hF5 := (HF.out.but HT4.out (fun _ _ _ h => h)).but hw5 (fun _ _ _ h => h)
    have hmk := make_upto w5 N (by omega)
    have hN5 := (HN0.out.but HT4.out (fun h => h)).but hw5 (fun h => h)
    have hT5 : But (fun _ => False) w w5 := HT.out.trans (HT4.out.trans hw5)
    obtain ⟨go, hgo⟩ : ∃ go, go = w5.heap.size := ⟨_, rfl⟩
    obtain ⟨W6, hW6⟩ : ∃ W6, W6 = w5.alloc (.cells (u8s (List.replicate N 0)).toArray 5) := ⟨_, rfl⟩
    rw [← hgo, ← hW6] at hmk
    have t6 : But (fun _ => False) w5 W6 := by rw [hW6]; exact (But.refl _ w5).alloc _
    have hB6 : Blk W6 go 5 (u8s (List.replicate N 0) ++ []) := by rw [hW6, List.append_nil]; exact Blk.new hgo.symm
    have hlts := hX5.lts
    have hfl := HFL.out
    have HMK := Hid.mk' (mask_any (go := go) (c := N) (old := u8s (List.replicate N 0)) (hX5.grow t6) HNN.out (hF5.but t6 (fun _ _ _ h => h)) (by omega) hB6 (by simp [u8s, hfl]) (by omega) ⟨by omega, by omega, by omega, by omega, by omega⟩
      (fun h e => by have := own_lt hF5 h _ e; omega))
    rw [hfl] at HMK
    have HN6 := Hid.mk' (hN5.but t6 (fun h => h))
    have HT6 := Hid.mk' (hT5.trans t6)
    have HGO := Hid.mk' hgo
    have HW6 := Hid.mk' hW6
    have HS5 : Hid (w.heap.size ≤ go) := by show _ ≤ _; rw [hgo]; exact hT5.size
    clear hX5 hs5 hF5 hN5 hT5 hgo hW6 t6 hB6 hlts hfl hw5 HX0 HF HT4 HDS HL4 HN0 HT HLAST HGD HCUT
    go_wp2_with (first
      | (refine wpList_load_u8s Try.underlying23 iN rfl _ rfl g (nts nc) HNL.out rfl HN6.out ?_)
      | fail)
    refine Calls.mono HMK.out ?_
    rintro e w7 ⟨rfl, hb7, hbut7⟩
    have HB7 := Hid.mk' hb7
    have HT7 := Hid.mk' (HT6.out.then hbut7 (fun j hj e => by have := HS5.out; omega))
    clear hb7 hbut7 HMK HN6 HT6
    go_wp2
    go_ret2
    rw [gcode_good HGG.out, gplain_good HGG.out, show s.length - 16 = N by have h1 := HM0.out; have h2 := HMM.out; omega]
    refine ⟨_, rfl, ?_, HT7.out⟩
    have hl : (gturn W nc (s.take N)).length = N := by rw [gturn_len, HFL.out]
    have h := (Ow.shut (base := 0) (cap := N) HB7.out (Nat.zero_le _) (gturn_lt W nc _) (by omega) (by rw [hl, List.length_nil, Nat.sub_self]) (by omega) (by unfold maxLen; omega)).bs
    rw [hl] at h
    exact h
  · have HGD : Hid (decide (D = s.drop N) = false) := decide_eq_false hgd
    have HGG : Hid (good W nc xs s = false) := by show _ = _; rw [HGOOD.out]; exact HGD.out
    clear hgd HGOOD
    refine region_same (l := [_, _, _, _, _, _]) (fun w' => But (fun _ => False) w4 w') (by kernel_rfl) (by kernel_rfl) ((But.refl _ w4).drew) ?_
    refine guard_val (.slice (some ⟨gt, 0, none⟩) 16 16) rfl (fun w' _ => by have hs := slice16 w' gt; go_simp) ?_
    intro K hK; go_simp; refine hK _ ?_; clear hK K
    refine guard_val _ rfl (fun w' _ => rfl) ?_
    intro K hK; go_simp; refine hK _ ?_; clear hK K
    refine guard_val _ rfl (fun w' _ => rfl) ?_
    intro K hK; go_simp; refine hK _ ?_; clear hK K
    refine guard_val p' rfl (fun w' _ => by have hs := HCUT.out w'; go_simp) ?_
    intro K hK; go_simp; refine hK _ ?_; clear hK K
    refine guard_call (.bool false) 33 #[.slice (some ⟨gt, 0, none⟩) 16 16, p'] rfl (fun w' _ => by kernel_rfl) (fun w' hw' => (msame_any (HDS.out.but hw' (fun _ _ _ h => h)) (HL4.out.but hw' (fun _ _ _ h => h))).mono (fun r w'' h => ⟨by rw [h.1, HGD.out], by obtain ⟨d, rfl⟩ := h.2; exact hw'.drewN⟩)) ?_
    intro K hK; go_simp; refine hK _ ?_; clear hK K
    refine guard_val (.bool true) rfl (fun w' _ => rfl) ?_
    intro K hK; go_simp; refine hK _ ?_; clear hK K
    refine wpQuiet_nil ?_
    intro w5 hw5
    have HT5 := Hid.mk' (HT.out.trans (HT4.out.trans hw5))
    clear hw5 HX0 HF HT4 HDS HL4 HN0 HT HLAST HGD HCUT
    go_wp2
    go_ret2
    rw [gcode_bad HSH.out HGG.out, gplain_bad HGG.out]
    exact ⟨_, rfl, Bs.nil _, HT5.out⟩
end Go.Proofs.Ythmjdebnjcopnaa
/- The laws' awake and great. -/
namespace Go.Proofs.Ythmjdebnjcopnaa
open Go.RowKit

theorem lit12 : (u8s (nts non0)).toArray = #[.int .u8 0, .int .u8 0, .int .u8 0, .int .u8 0, .int .u8 0, .int .u8 0, .int .u8 0, .int .u8 0, .int .u8 0, .int .u8 0, .int .u8 0, .int .u8 0] := rfl
theorem Bs.bytes {w : World} {v : Value} {xs : List Nat} (h : Bs w v xs) : ∃ key : List B8, xs = nts key := by
  refine ⟨xs.map (BitVec.ofNat 8), ?_⟩
  unfold nts
  rw [List.map_map]
  have e : xs.map (b8 ∘ BitVec.ofNat 8) = xs.map id := List.map_congr_left (fun z hz => b8_of z (h.1 z hz))
  rw [e, List.map_id]
theorem wlen {key : List B8} (h : key.length = 16 ∨ key.length = 32) : (words key).length = 44 ∨ (words key).length = 60 := by
  rw [words_len]; omega
theorem Ow.cellAt {w : World} {base g n cap : Nat} {zs : List Nat} (h : Ow w base (.slice (some ⟨g, 0, none⟩) n cap) zs) (i : Nat) (hi : i < zs.length) : w.cell? ⟨g, i, none⟩ = some (.int .u8 (zs.getD i 0 : Nat)) := by
  obtain ⟨g', cap', R, e, -, hb, -⟩ := h.open (by omega)
  simp only [Value.slice.injEq, Option.some.injEq, Addr.mk.injEq, and_true] at e
  obtain ⟨rfl, -⟩ := e
  rw [hb.cell, List.getElem?_append_left (by simp [u8s]; exact hi), u8s_get _ i hi]
set_option maxRecDepth 100000 in
set_option maxHeartbeats 2000000 in
theorem great_any {w : World} {ao1 ao2 : Option Addr} {n1 n2 c1 c2 : Nat} :
    Calls Try.prog 12 #[.slice ao1 n1 c1, .slice ao2 n2 c2] w fun e w' => e = .returned (.bool (decide (1000 < n1 ∨ 1000 < n2))) ∧ w' = w := by
  by_cases h1 : 1000 < n1
  · have h1i : (1000 : Int) < (n1 : Int) := by omega
    rw [decide_eq_true (.inl h1)]
    go_enter Try.func12, Try.ntmps12
    go_wp2
    go_ret
    exact ⟨rfl, rfl⟩
  · have h1i : ¬ ((1000 : Int) < (n1 : Int)) := by omega
    by_cases h2 : 1000 < n2
    · have h2i : (1000 : Int) < (n2 : Int) := by omega
      rw [decide_eq_true (.inr h2)]
      go_enter Try.func12, Try.ntmps12
      go_wp2
      go_ret
      exact ⟨rfl, rfl⟩
    · have h2i : ¬ ((1000 : Int) < (n2 : Int)) := by omega
      rw [decide_eq_false (fun h => h.elim h1 h2)]
      go_enter Try.func12, Try.ntmps12
      go_wp2
      go_ret
      exact ⟨rfl, rfl⟩
set_option maxRecDepth 100000 in
set_option maxHeartbeats 2000000 in
theorem awake_any (w : World) : Calls Try.prog 11 #[] w fun e w' => e = .returned (.bool true) ∧ But (fun _ => False) w w' := by
  have hmk := make_bytes w 16 (by decide)
  obtain ⟨W0, hW0⟩ : ∃ W0, W0 = w.alloc (.cells (u8s (List.replicate 16 0)).toArray 5) := ⟨_, rfl⟩
  rw [← hW0] at hmk
  have hT0 : But (fun _ => False) w W0 := by rw [hW0]; exact (But.refl _ w).alloc _
  have hK : Bs W0 (.slice (some ⟨w.heap.size, 0, none⟩) 16 16) (nts key0) := by
    rw [hW0]
    exact blk_bs (L := nts key0) (Blk.new rfl) (by decide) (by decide) (nts_lt _)
  have HN := Hid.mk' (gnew_any hK (.inl rfl))
  have HT0 := Hid.mk' hT0
  have hmk' : ∀ x y : Int, x = 16 → y = 16 → Sem.run Try.prog (Instr.makeSlice 22 (.int .i64 x) (.int .i64 y)) w = .ok (.slice (some ⟨w.heap.size, 0, none⟩) 16 16) W0 := by
    rintro _ _ rfl rfl; exact hmk
  have hm2 := hmk' 16 16 rfl rfl
  clear hW0 hT0 hK hmk hmk'
  go_enter Try.func11, Try.ntmps11
  go_wp2_with fail
  refine Calls.mono HN.out ?_
  rintro e w1 ⟨gx, rfl, hbx, hb1⟩
  have HS := Hid.mk' (gseal_any (nc := non0) hbx (wlen (.inl rfl)) rfl (Bs.nil w1) (Bs.nil w1) (by decide) (by decide))
  rw [lit12, seal_none] at HS
  have HT1 := Hid.mk' (HT0.out.trans hb1)
  clear hbx hb1 HN HT0 hm2
  go_wp2_with fail
  refine Calls.mono HS.out ?_
  rintro e w2 ⟨v, rfl, ho2, hb2⟩
  obtain ⟨g, cap, R, hv, -, -, -, -, -⟩ := ho2.open (by decide)
  rw [show (nts outC1).length = 16 by decide] at hv
  subst hv
  have c0 := ho2.cellAt 0 (by decide)
  have c15 := ho2.cellAt 15 (by decide)
  rw [outC1_lit] at c0 c15
  have d0 : w2.cell? ⟨g, 0, none⟩ = some (.int .u8 88) := c0
  have d15 : w2.cell? ⟨g, 15, none⟩ = some (.int .u8 90) := c15
  have HT2 := Hid.mk' (HT1.out.trans hb2)
  clear ho2 hb2 HS HT1 c0 c15
  go_wp2
  go_ret
  exact ⟨rfl, HT2.out⟩
end Go.Proofs.Ythmjdebnjcopnaa
/- What memory is amid the laws of gcm. -/
namespace Go.Proofs.Ythmjdebnjcopnaa
open Go.RowKit

theorem Bs.low {R : Nat → Prop} {w w' : World} {v : Value} {zs : List Nat} (h : Bs w v zs) (k : But R w w') (ho : 0 < zs.length → ∀ j, v.ownBlock = some j → ¬ R j) : Bs w' v zs := by
  by_cases h0 : 0 < zs.length
  · exact h.but k (fun j hj _ => ho h0 j hj)
  · obtain ⟨h1, h2, h3 | h3⟩ := h
    · exact ⟨h1, h2, .inl h3⟩
    · exact absurd h3.1 h0
theorem Bs.ownLt {w : World} {v : Value} {zs : List Nat} (h : Bs w v zs) (h0 : 0 < zs.length) : ∀ j, v.ownBlock = some j → j < w.heap.size := by
  obtain ⟨_, _, ⟨e, _⟩ | ⟨_, b, so, cap', rfl, _, hb, _⟩⟩ := h
  · rw [e] at h0; exact absurd h0 (by decide)
  · intro j hj
    cases hj
    exact hb
structure St (w : World) (g top gx gk : Nat) (vW v1 v2 : Value) (W : List (List B8)) (nc : List B8) (xs ys : List Nat) (wr : World) : Prop where
  non : Blk wr g 23 (u8s (nts nc))
  box : Bx wr top gx W
  key : Blk wr gk 31 (keyV vW)
  wds : Wr wr vW W
  aad : Bs wr v1 xs
  txt : Bs wr v2 ys
  but : But (fun _ => False) w wr
  lg : g < top
  lk : gk < top
  lw : ∀ j, vW.ownBlock = some j → j < top
  l1 : 0 < xs.length → ∀ j, v1.ownBlock = some j → j < top
  l2 : 0 < ys.length → ∀ j, v2.ownBlock = some j → j < top
  le : w.heap.size ≤ top
  tp : top ≤ wr.heap.size
theorem St.put {R : Nat → Prop} {w : World} {g top gx gk : Nat} {vW v1 v2 : Value} {W : List (List B8)} {nc : List B8} {xs ys : List Nat} {wr w' : World} (i : St w g top gx gk vW v1 v2 W nc xs ys wr) (k : But R wr w') (hr : ∀ j, j < top → ¬ R j) : St w g top gx gk vW v1 v2 W nc xs ys w' :=
  ⟨i.non.but k (hr _ i.lg), i.box.but k hr, i.key.but k (hr _ i.lk), i.wds.but k (fun j hj => hr j (i.lw j hj)), i.aad.low k (fun h0 j hj => hr j (i.l1 h0 j hj)), i.txt.low k (fun h0 j hj => hr j (i.l2 h0 j hj)),
    i.but.then k (fun j hj e => (hr j (Nat.lt_of_lt_of_le hj i.le) e).elim), i.lg, i.lk, i.lw, i.l1, i.l2, i.le, Nat.le_trans i.tp k.size⟩
theorem St.then {w : World} {g top gx gk : Nat} {vW v1 v2 : Value} {W : List (List B8)} {nc : List B8} {xs ys : List Nat} {wr w' : World} (i : St w g top gx gk vW v1 v2 W nc xs ys wr) (k : But (fun _ => False) wr w') : St w g top gx gk vW v1 v2 W nc xs ys w' := i.put k (fun _ _ h => h)
/-- The key of the reference is laid into its variable. -/
theorem St.start {w w2 w3 : World} {g t0 gx gk : Nat} {vW v1 v2 : Value} {W : List (List B8)} {nc : List B8} {xs ys : List Nat} {Z : Array Value} (hn : Blk w2 g 23 (u8s (nts nc))) (hx : Bx w2 t0 gx W) (ht : t0 ≤ w2.heap.size) (hw : Wr w2 vW W) (h1 : Bs w2 v1 xs) (h2 : Bs w2 v2 ys) (hb : But (fun _ => False) w w2)
    (hgk : gk = w2.heap.size) (hk : Blk w3 gk 31 (keyV vW)) (hb3 : But (· = gk) (w2.alloc (.cells Z 31)) w3) : St w g w3.heap.size gx gk vW v1 v2 W nc xs ys w3 := by
  have k : But (fun _ => False) w2 w3 := ((But.refl _ w2).alloc (.cells Z 31)).then hb3 (fun j hj e => by omega)
  have hs := k.size
  obtain ⟨gv, cv, hv, hgv, -⟩ := id hw
  exact ⟨hn.but k (fun h => h), (hx.but k (fun _ _ h => h)).mono (by omega), hk, hw.but k (fun _ _ h => h), h1.but k (fun _ _ _ h => h), h2.but k (fun _ _ _ h => h), hb.trans k, Nat.lt_of_lt_of_le hn.lt hs, hk.lt,
    (fun j hj => by rw [hv] at hj; cases hj; exact Nat.lt_of_lt_of_le hgv hs), (fun h0 j hj => Nat.lt_of_lt_of_le (h1.ownLt h0 j hj) hs), (fun h0 j hj => Nat.lt_of_lt_of_le (h2.ownLt h0 j hj) hs), Nat.le_trans hb.size hs, Nat.le_refl _⟩
/-- A byte of an own row turned. -/
theorem Ow.setAt {w : World} {base g n cap i y : Nat} {zs : List Nat} (h : Ow w base (.slice (some ⟨g, 0, none⟩) n cap) zs) (hn : zs.length = n) (hi : i < zs.length) (hy : y < 256) : Ow (w.setCell ⟨g, i, none⟩ (.int .u8 (y : Int))) base (.slice (some ⟨g, 0, none⟩) n cap) (zs.set i y) := by
  obtain ⟨g', cap', R, e, hge, hb, hR, hc, hm⟩ := h.open (by omega)
  simp only [Value.slice.injEq, Option.some.injEq, Addr.mk.injEq, and_true] at e
  obtain ⟨rfl, e2, rfl⟩ := e
  have h2 := hb.set i (.int .u8 (y : Int))
  rw [List.set_append_left _ _ (by simp [u8s]; exact hi), u8s_set] at h2
  have h3 := Ow.shut (base := base) (cap := cap) h2 hge (by
    intro z hz
    rcases List.mem_or_eq_of_mem_set hz with h4 | h4
    · exact h.lt z h4
    · rw [h4]; exact hy) (by rw [List.length_set]; exact h.len) (by rw [List.length_set]; exact hR) (by rw [List.length_set]; exact hc) hm
  rw [List.length_set, hn] at h3
  exact h3
theorem Ow.freeAt {w : World} {base g n cap : Nat} {zs : List Nat} (h : Ow w base (.slice (some ⟨g, 0, none⟩) n cap) zs) (h0 : 0 < zs.length) (i : Nat) : w.frozen? ⟨g, i, none⟩ = false := by
  obtain ⟨g', c', R', e', -, hb', -⟩ := h.open h0
  simp only [Value.slice.injEq, Option.some.injEq, Addr.mk.injEq, and_true] at e'
  rw [e'.1]
  exact hb'.free i
theorem wpList_load_key_g {w : World} {ops : Array Oper} {rest : List Oper} {o : Oper} {a : Act} {Q : Exit → Act → World → Prop} {v : Value} (hw : Region.wanted o (yielded ops a.tmps) = true) (x : Operand) (ho : o.op = .load 31 x) (g : Nat) (hx : a.eval x = .pointer (some ⟨g, 0, none⟩)) (hb : Blk w g 31 (keyV v))
    (h : wpList Try.prog ops Q rest (a.put o.dst (.agg (keyV v).toArray)) w) : wpList Try.prog ops Q (o :: rest) a w :=
  wpList_want hw fun _ hK => wp_load_row 31 x ho g hx 31 _ (0, 0) _ hb Try.underlying31 rfl (by rw [iKey]; simp [keyV_len]) (hK _ _ h)
end Go.Proofs.Ythmjdebnjcopnaa
/- A byte that is turned turns the tag. -/
namespace Go.Proofs.Ythmjdebnjcopnaa
open Go.RowKit

theorem nts_inj {a b : List B8} (h : nts a = nts b) : a = b := by
  unfold nts at h
  exact (List.map_inj_right (fun _ _ e => b8_inj e)).1 h
theorem gadd_right {a b c : List B8} (ha : a.length = 16) (hb : b.length = 16) (h : gadd a c = gadd b c) : a = b := by
  refine toG_inj ha hb ?_
  have e : toG (gadd a c) = toG (gadd b c) := by rw [h]
  rw [toG_gadd, toG_gadd] at e
  have e2 := congrArg (fun z => z ^^^ toG c) e
  simpa only [BitVec.xor_assoc, BitVec.xor_self, BitVec.xor_zero] using e2
theorem gadd_left {a b c : List B8} (ha : a.length = 16) (hb : b.length = 16) (h : gadd c a = gadd c b) : a = b := by
  refine toG_inj ha hb ?_
  have e : toG (gadd c a) = toG (gadd c b) := by rw [h]
  rw [toG_gadd, toG_gadd] at e
  have e2 := congrArg (fun z => toG c ^^^ z) e
  simpa only [← BitVec.xor_assoc, BitVec.xor_self, BitVec.zero_xor] using e2
theorem sums_differ {h : List B8} (hh : h.length = 16) (hne : h ≠ gzero) {L : List Nat} {n k z : Nat} (hk : k < 16 * n) (hl : k < L.length) (hz : bt L k ≠ BitVec.ofNat 8 z) : gsumN h L n ≠ gsumN h (L.set k z) n := by
  intro e
  have t := turned_sum hh (L := L) (M := L.set k z) k n hk (fun j hj => by rw [bt_set L k z j hl, if_neg hj])
  rw [t, bt_set L k z k hl, if_pos rfl] at e
  exact e.elim hz hne
theorem gall_aad (xs ys : List Nat) (i z : Nat) (h : i < xs.length) : gall (xs.set i z) ys = (gall xs ys).set i z := by
  unfold gall
  rw [padB_set xs i z h, List.length_set, List.append_assoc, List.append_assoc, List.set_append_left _ _ (by rw [padB_len]; unfold nblk; omega)]
theorem gall_text (xs ys : List Nat) (i z : Nat) (h : i < ys.length) : gall xs (ys.set i z) = (gall xs ys).set ((padB xs).length + i) z := by
  unfold gall
  rw [padB_set ys i z h, List.length_set, List.append_assoc, List.append_assoc, List.set_append_right _ _ (by omega), Nat.add_sub_cancel_left, List.set_append_left _ _ (by rw [padB_len]; unfold nblk; omega)]
theorem bt_aad (xs ys : List Nat) (i : Nat) (h : i < xs.length) : bt (gall xs ys) i = bt xs i := by
  unfold bt List.getD gall padB
  rw [List.append_assoc, List.append_assoc, List.getElem?_append_left h]
theorem bt_text (xs ys : List Nat) (i : Nat) (h : i < ys.length) : bt (gall xs ys) ((padB xs).length + i) = bt ys i := by
  unfold bt List.getD gall
  rw [List.append_assoc, List.getElem?_append_right (by omega), Nat.add_sub_cancel_left]
  unfold padB
  rw [List.append_assoc, List.getElem?_append_left h]
theorem aad_differs {h : List B8} (hh : h.length = 16) (hne : h ≠ gzero) {xs ys : List Nat} {i z : Nat} (hi : i < xs.length) (hz : bt xs i ≠ BitVec.ofNat 8 z) : gsum h xs ys ≠ gsum h (xs.set i z) ys := by
  unfold gsum
  rw [gall_aad xs ys i z hi, List.length_set]
  exact sums_differ hh hne (by unfold nblk; omega) (by rw [gall_len]; unfold nblk; omega) (by rw [bt_aad xs ys i hi]; exact hz)
theorem text_differs {h : List B8} (hh : h.length = 16) (hne : h ≠ gzero) {xs ys : List Nat} {i z : Nat} (hi : i < ys.length) (hz : bt ys i ≠ BitVec.ofNat 8 z) : gsum h xs ys ≠ gsum h xs (ys.set i z) := by
  unfold gsum
  rw [gall_text xs ys i z hi, List.length_set]
  exact sums_differ hh hne (by rw [padB_len]; unfold nblk; omega) (by rw [padB_len, gall_len]; unfold nblk; omega) (by rw [bt_text xs ys i hi]; exact hz)
theorem bad_of {W : List (List B8)} {nc : List B8} {aad s : List Nat} (h : nts (gtag W nc aad (s.take (s.length - 16))) ≠ s.drop (s.length - 16)) : good W nc aad s = false := decide_eq_false (fun e => h e.2)
theorem seal_take (W : List (List B8)) (nc : List B8) (aad p : List Nat) : (gseal W nc aad p).take p.length = gturn W nc p := by
  unfold gseal
  rw [List.take_append_of_le_length (by rw [gturn_len]; exact Nat.le_refl _), List.take_of_length_le (by rw [gturn_len]; exact Nat.le_refl _)]
theorem seal_drop (W : List (List B8)) (nc : List B8) (aad p : List Nat) : (gseal W nc aad p).drop p.length = nts (gtag W nc aad (gturn W nc p)) := by
  unfold gseal
  rw [List.drop_append_of_le_length (by rw [gturn_len]; exact Nat.le_refl _), List.drop_of_length_le (by rw [gturn_len]; exact Nat.le_refl _), List.nil_append]
theorem bt_getD (l : List Nat) (i : Nat) (h : l.getD i 0 < 256) : b8 (bt l i) = l.getD i 0 := b8_of _ h
/-- A byte of what was sealed. -/
theorem turned_bad {W : List (List B8)} {nc : List B8} {aad p : List Nat} (hne : ghk W ≠ gzero) {i : Nat} {y : B8} (hi : i < p.length + 16) (hy : y ≠ 0#8) : good W nc aad ((gseal W nc aad p).set i (b8 (bt (gseal W nc aad p) i ^^^ y))) = false := by
  obtain ⟨s, hs⟩ : ∃ s, s = gseal W nc aad p := ⟨_, rfl⟩
  rw [← hs]
  have hsl : s.length = p.length + 16 := by rw [hs, gseal_len]
  have hxy : ∀ x : B8, x ≠ x ^^^ y := fun x e => hy (by
    have e2 := congrArg (fun z => x ^^^ z) e
    simpa only [← BitVec.xor_assoc, BitVec.xor_self, BitVec.zero_xor] using e2.symm)
  refine bad_of ?_
  rw [List.length_set, hsl, show p.length + 16 - 16 = p.length by omega]
  by_cases h : i < p.length
  · rw [List.take_set, List.drop_set_of_lt h, hs, seal_take, seal_drop, ← hs]
    intro e
    have e1 := gadd_right (gsumN_len _ _ _) (gsumN_len _ _ _) (nts_inj e)
    refine text_differs (ghk_len W) hne (ys := gturn W nc p) (i := i) (z := b8 (bt s i ^^^ y)) (by rw [gturn_len]; exact h) ?_ e1.symm
    have e2 : bt (gturn W nc p) i = bt s i := by
      unfold bt List.getD
      rw [hs, ← seal_take W nc aad p, List.getElem?_take, if_pos h]
    rw [e2, ofNat_b8]
    exact hxy _
  · have hk : i - p.length < 16 := by omega
    rw [List.take_set_of_le (by omega), List.drop_set, if_neg h, hs, seal_take, seal_drop, ← hs]
    intro e
    have e1 := congrArg (fun l => l.getD (i - p.length) 0) e
    obtain ⟨t, ht⟩ : ∃ t, t = gtag W nc aad (gturn W nc p) := ⟨_, rfl⟩
    have htl : t.length = 16 := by rw [ht, gtag_len]
    simp only [← ht] at e1
    have hlt : i - p.length < (nts t).length := by rw [nts_len, htl]; exact hk
    rw [List.getD_eq_getElem?_getD, List.getD_eq_getElem?_getD, List.getElem?_set_self hlt, nts_at t _ (by rw [htl]; exact hk)] at e1
    have e3 : bt s i = at8 t (i - p.length) := by
      unfold bt List.getD
      have : s[i]? = (nts t)[i - p.length]? := by rw [ht, ← seal_drop, ← hs, List.getElem?_drop, show p.length + (i - p.length) = i by omega]
      rw [this, nts_at t _ (by rw [htl]; exact hk)]
      exact ofNat_b8 _
    rw [e3] at e1
    exact hxy _ (b8_inj e1)
/-- Another nonce. -/
theorem nonce_bad {W : List (List B8)} {nc nc' : List B8} {aad p : List Nat} (hn : nc.length = 12) (hn' : nc'.length = 12) (h : nc ≠ nc') : good W nc' aad (gseal W nc aad p) = false := by
  refine bad_of ?_
  rw [gseal_len, show p.length + 16 - 16 = p.length by omega, seal_take, seal_drop]
  intro e
  have e1 := gadd_left (ctr_len _ _ _) (ctr_len _ _ _) (nts_inj e)
  exact h (ctr_inj W hn' hn 1 e1).symm
/-- Something else goes along. -/
theorem aad_bad {W : List (List B8)} {nc : List B8} {aad p : List Nat} (hne : ghk W ≠ gzero) {i z : Nat} (hi : i < aad.length) (hz : bt aad i ≠ BitVec.ofNat 8 z) : good W nc (aad.set i z) (gseal W nc aad p) = false := by
  refine bad_of ?_
  rw [gseal_len, show p.length + 16 - 16 = p.length by omega, seal_take, seal_drop]
  intro e
  exact aad_differs (ghk_len W) hne hi hz (gadd_right (gsumN_len _ _ _) (gsumN_len _ _ _) (nts_inj e)).symm
end Go.Proofs.Ythmjdebnjcopnaa
/- A number brought into a range; a byte of a slice turned (as MacTurnedP has them, by other names). -/
namespace Go.Proofs.Ythmjdebnjcopnaa
open Go.RowKit

theorem i64_in {x : Int} (h : (Lit.int .i64 x).wf = true) : -9223372036854775808 ≤ x ∧ x ≤ 9223372036854775807 := by
  have h8 : IntKind.i64.min ≤ x ∧ x ≤ IntKind.i64.max := by simpa [Lit.wf, go_sem] using h
  have e1 : IntKind.i64.min = -9223372036854775808 := rfl
  have e2 : IntKind.i64.max = 9223372036854775807 := rfl
  omega
theorem pickOf_any (x : Int) (n : Nat) (hx : (Lit.int .i64 x).wf = true) (hn : 0 < n) (hn2 : n ≤ 1099511627776) (w : World) :
    Calls Try.prog 22 #[.int .i64 x, .int .i64 (n : Int)] w fun e w' => ∃ k : Nat, e = .returned (.int .i64 (k : Int)) ∧ k < n ∧ w' = w := by
  have hb := i64_in hx
  have h1 : ¬ ((n : Int) < 1) := by omega
  have h0 : ¬ ((n : Int) = 0) := by omega
  have hne : ¬ ((n : Int) = -1) := by omega
  have ht1 : x.tmod n < n := Int.tmod_lt_of_pos x (by omega)
  have ht2 : -(n : Int) < x.tmod n := by
    have := Int.lt_tmod_of_pos x (b := (n : Int)) (by omega)
    omega
  obtain ⟨m, hm⟩ : ∃ m, m = x.tmod n := ⟨_, rfl⟩
  rw [← hm] at ht1 ht2
  by_cases hneg : m < 0
  · go_enter Try.func22, Try.ntmps22
    go_wp2
    go_ret
    exact ⟨(m + n).toNat, by simp; omega, by omega, rfl⟩
  · go_enter Try.func22, Try.ntmps22
    go_wp2
    go_ret
    exact ⟨m.toNat, by simp; omega, by omega, rfl⟩

theorem Bs.setOne {w : World} {g n cap q y : Nat} {zs : List Nat} (h : Bs w (.slice (some ⟨g, 0, none⟩) n cap) zs) (hq : q < n) (hn : zs.length = n) (hy : y < 256) : Bs (w.setCell ⟨g, q, none⟩ (.int .u8 (y : Int))) (.slice (some ⟨g, 0, none⟩) n cap) (zs.set q y) := by
  obtain ⟨h1, h2, ⟨e, _⟩ | ⟨h0, b, off, cap', e, hcap, hb, hc⟩⟩ := h
  · rw [e] at hn; simp at hn; omega
  · simp only [Value.slice.injEq, Option.some.injEq, Addr.mk.injEq] at e
    obtain ⟨⟨rfl, rfl, _⟩, _, rfl⟩ := e
    refine ⟨?_, by simpa using h2, .inr ⟨by simpa using h0, g, 0, cap, by simp [hn], by simpa using hcap, by simpa using hb, fun i hi => ?_⟩⟩
    · intro z hz
      rcases List.mem_or_eq_of_mem_set hz with h | rfl
      · exact h1 z h
      · exact hy
    · have hi' : i < zs.length := by simpa using hi
      rw [Nat.zero_add]
      have hci := hc i hi'
      rw [Nat.zero_add] at hci
      by_cases e : q = i
      · subst e
        rw [World.cell?_setCell_same (h := hci)]
        simp [List.getD, hi']
      · rw [World.cell?_setCell_other (h := fun h => e (congrArg Addr.off h)), hci]
        simp [List.getD, List.getElem?_set_ne e]
end Go.Proofs.Ythmjdebnjcopnaa
