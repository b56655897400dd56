/- ShaKnown. -/
import Derived.Test.YtmilmaljahjgeaaDoorShaGoesP
namespace Go.Proofs.YtmilmaljahjgeaaDoor
open Go.ChangeShapes Go.WideShapes Go.ChangeAt Go.RowKit


theorem Ps.nil (w : World) : Ps w (.slice none 0 0) [] := .inl ⟨rfl, .inl rfl⟩
section
variable {P : Program} {w w' : World} {o : Oper} {a : Act} {K : Act → World → Prop} {Q : Exit → Act → World → Prop}
theorem op_index (t : TypeId) (x y : Operand) (u1 u2 v : Value) (ho : o.op = .indexAddr t x y) (hx : a.eval x = u1) (hy : a.eval y = u2) (hr : (Instr.indexAt t u1 u2).run P w = .ok v w) (h : K (a.put o.dst v) w) : o.wp P a w K Q := by
  refine op_value v ?_ h
  unfold execOp
  simp only [ho, hx, hy, Sem.run_bind, hr, Result.andThen_ok, Sem.run_pure]
theorem op_load (t : TypeId) (x : Operand) (u1 v : Value) (ho : o.op = .load t x) (hx : a.eval x = u1) (hr : (Instr.loadAt t u1).run P w = .ok v w) (h : K (a.put o.dst v) w) : o.wp P a w K Q := by
  refine op_value v ?_ h
  unfold execOp
  simp only [ho, hx, Sem.run_bind, hr, Result.andThen_ok, Sem.run_pure]
end
theorem index32 (g k : Nat) (hk : k < 32) (w : World) : (Instr.indexAt 25 (.pointer (some ⟨g, 0, none⟩)) (.int .i64 (k : Int))).run Tryd.prog w = .ok (.pointer (some ⟨g, k, none⟩)) w := by
  have hki : (k : Int) < 32 := by omega
  simp [go_sem, hki]
theorem load8 (g k x : Nat) (w : World) (h : w.cell? ⟨g, k, none⟩ = some (.int .u8 (x : Int))) : (Instr.loadAt 5 (.pointer (some ⟨g, k, none⟩))).run Tryd.prog w = .ok (.int .u8 (x : Int)) w := by
  simp [go_sem, h]
theorem eql8 (x : Nat) (w : World) : (binOp .eql 5 (.int .u8 (x : Int)) (.int .u8 (x : Int))).run Tryd.prog w = .ok (.bool true) w := by simp [go_sem]
theorem callNew (args : Array Value) (w : World) : (callFunc 15 args).run Tryd.prog w = .ok (.enter 15 args) w := by kernel_rfl

set_option maxRecDepth 100000 in
set_option maxHeartbeats 4000000 in
theorem shaKnown_walk (w : World) (hk : Kw w) (hh : Hw w) :
    Calls Tryd.prog 7 #[] w fun e w' => e = .returned (.bool true) ∧ Below w.heap.size w w' := by
  have hz2 : ∀ w : World, (zeroValue 25).run Tryd.prog w = .ok (.agg (u8s (List.replicate 32 0)).toArray) w := fun _ => by kernel_rfl
  obtain ⟨O, hO⟩ : ∃ O, O = (u8s (List.replicate 32 0)).toArray := ⟨_, rfl⟩
  rw [← hO] at hz2
  have HO := Hid.mk' hO
  clear hO
  have b1 : But (fun _ => False) w (w.alloc (.cells #[.int .u8 1] 5)) := (But.refl _ w).alloc _
  have HOF := Hid.mk' (of_any (Ps.nil (w.alloc (.cells #[.int .u8 1] 5))) (hk.but b1 (fun h => h)) (hh.but b1 (fun h => h)) (by decide) (by decide))
  have HB1 := Hid.mk' b1
  have HK := Hid.mk' hk
  have HH := Hid.mk' hh
  obtain ⟨D, hD⟩ : ∃ D, D = digest [] := ⟨_, rfl⟩
  rw [show ([] : List (List Nat)).flatten = [] from rfl, ← hD] at HOF
  have HDL : Hid (D.length = 32) := by show _ = _; rw [hD]; exact digest_len _
  have HCE : Hid (∀ (w5 : World) (g : Nat), Blk w5 g 25 (u8s D) → w5.cell? ⟨g, 0, none⟩ = some (.int .u8 ((227 : Nat) : Int)) ∧ w5.cell? ⟨g, 1, none⟩ = some (.int .u8 ((176 : Nat) : Int)) ∧ w5.cell? ⟨g, 30, none⟩ = some (.int .u8 ((184 : Nat) : Int)) ∧ w5.cell? ⟨g, 31, none⟩ = some (.int .u8 ((85 : Nat) : Int))) := by
    intro w5 g h
    refine ⟨?_, ?_, ?_, ?_⟩ <;> rw [h.cell, hD, digest_nil] <;> rfl
  have HSU : Hid (∀ (wx : World) (po : Option Addr), But (fun _ => False) w wx → ((po = none) ∨ ∃ g, po = some ⟨g, 0, none⟩ ∧ Sm wx g []) → Calls Tryd.prog 16 #[.pointer po] wx fun e w' => e = .returned (.agg (u8s D).toArray) ∧ But (fun _ => False) wx w') := by
    intro wx po h3 h2
    refine (sum_any (all := []) (by rcases h2 with h | h; exact .inl ⟨h, rfl⟩; exact .inr h) (HK.out.but h3 (fun h => h)) (HH.out.but h3 (fun h => h)) (by decide)).mono ?_
    rintro e w' ⟨rfl, h4⟩
    exact ⟨by rw [hD], h4⟩
  have HAW : Hid (∀ (wx : World), But (fun _ => False) w wx → Calls Tryd.prog 8 #[] wx fun e w' => e = .returned (.bool true) ∧ But (fun _ => False) wx w') := by
    intro wx h3
    exact awake_any (HK.out.but h3 (fun h => h)) (HH.out.but h3 (fun h => h))
  have heq := eql_same D HDL.out
  obtain ⟨C, hC⟩ : ∃ C, C = (u8s D).toArray := ⟨_, rfl⟩
  rw [← hC] at heq HSU HOF
  have HC := Hid.mk' hC
  clear hD hC b1 hk hh
  go_enter Tryd.func7, Tryd.ntmps7
  go_wp2_with (first
    | (go_at_call 17; refine Calls.mono write_nil ?_; rintro e w1 ⟨rfl, hw1⟩; have hw2 := hw1.symm; subst hw2)
    | (go_at_call 10; refine Calls.mono HOF.out ?_; rintro e w3 ⟨rfl, hb3⟩)
    | (refine wpList_store_digest rfl _ _ rfl w3.heap.size D HDL.out rfl (by rw [← HC.out]; rfl) (u8s (List.replicate 32 0)) rfl (by rw [HO.out]; exact Blk.new rfl) ?_; intro w5 hb5 hbut5))
  have HB5 : Hid (But (fun _ => False) w w5) := (HB1.out.trans hb3).alloc _ |>.then hbut5 (fun i hi e => by have := (HB1.out.trans hb3).size; omega)
  have HBE := Hid.mk' hb5
  generalize w3.heap.size = ge at *
  simp only [Act.put]
  have HEQ := Hid.mk' heq
  have HEQI : Hid (∀ wx : World, (binOp .eql 3 (.int .i64 0) (.int .i64 0)).run Tryd.prog wx = .ok (.bool true) wx) := by
    intro wx; simp [go_sem]
  clear hz2 hbut5 hb5 heq
  refine region_grow (by kernel_rfl) (by kernel_rfl) (by kernel_rfl) (fun i v wx => match i with
      | 2 => v = .pointer (some ⟨ge, 0, none⟩)
      | 3 => v = .int .u8 ((227 : Nat) : Int)
      | 7 => v = .pointer (some ⟨ge, 1, none⟩)
      | 8 => v = .int .u8 ((176 : Nat) : Int)
      | 12 => v = .pointer (some ⟨ge, 30, none⟩)
      | 13 => v = .int .u8 ((184 : Nat) : Int)
      | 17 => v = .pointer (some ⟨ge, 31, none⟩)
      | 18 => v = .int .u8 ((85 : Nat) : Int)
      | 22 | 28 => v = .pointer none
      | 23 | 24 | 34 | 35 => v = .agg C
      | 29 => v = .int .i64 0
      | 33 => ∃ g, v = .pointer (some ⟨g, 0, none⟩) ∧ Sm wx g []
      | _ => v = .bool true) ?_ ?_ ?_
  · intro i v wx wy h k
    split at h
    all_goals first | exact h | exact ⟨h.choose, h.choose_spec.1, h.choose_spec.2.but k (fun h => h)⟩
  · intro i o a wx ho hbut hkn
    match i, (Array.getElem?_eq_some_iff.1 ho).1 with
    | 0, _ =>
      obtain rfl := Option.some.inj ho
      refine ⟨Know.free rfl, op_call 8 [] _ #[] rfl rfl (callAwake _ _) ((HAW.out wx (HB5.out.trans hbut)).mono ?_)⟩
      rintro e u ⟨rfl, hu⟩
      exact ⟨_, rfl, _, rfl, hu, rfl⟩
    | 1, _ =>
      obtain rfl := Option.some.inj ho
      refine ⟨Know.free rfl, op_move _ _ rfl rfl ?_⟩
      exact ⟨_, rfl, But.refl _ _, hkn.val 0 7 (by kernel_rfl) rfl⟩
    | 2, _ =>
      obtain rfl := Option.some.inj ho
      refine ⟨hkn.guard 1 8 true rfl (by kernel_rfl) rfl (fun _ h => h), op_index _ _ _ _ _ _ rfl (hkn.was 2 (by kernel_rfl)) rfl (index32 ge 0 (by decide) wx) ?_⟩
      exact ⟨_, rfl, But.refl _ _, rfl⟩
    | 3, _ =>
      obtain rfl := Option.some.inj ho
      refine ⟨hkn.guard 1 8 true rfl (by kernel_rfl) rfl (fun _ h => h), op_load _ _ _ _ rfl (hkn.val 2 9 (by kernel_rfl) rfl) (load8 ge 0 227 wx (HCE.out wx ge (HBE.out.but hbut (fun h => h))).1) ?_⟩
      exact ⟨_, rfl, But.refl _ _, rfl⟩
    | 4, _ =>
      obtain rfl := Option.some.inj ho
      refine ⟨hkn.guard 1 8 true rfl (by kernel_rfl) rfl (fun _ h => h), op_bin .eql _ _ _ _ _ _ _ rfl (hkn.val 3 10 (by kernel_rfl) rfl) rfl rfl (eql8 227 wx) ?_⟩
      exact ⟨_, rfl, But.refl _ _, rfl⟩
    | 5, _ =>
      obtain rfl := Option.some.inj ho
      refine ⟨Know.free rfl, op_pick _ _ _ _ rfl (hkn.val 1 8 (by kernel_rfl) rfl) rfl ?_⟩
      exact ⟨_, rfl, But.refl _ _, hkn.val 4 11 (by kernel_rfl) rfl⟩
    | 6, _ =>
      obtain rfl := Option.some.inj ho
      refine ⟨Know.free rfl, op_move _ _ rfl rfl ?_⟩
      exact ⟨_, rfl, But.refl _ _, hkn.val 5 12 (by kernel_rfl) rfl⟩
    | 7, _ =>
      obtain rfl := Option.some.inj ho
      refine ⟨hkn.guard 6 13 true rfl (by kernel_rfl) rfl (fun _ h => h), op_index _ _ _ _ _ _ rfl (hkn.was 2 (by kernel_rfl)) rfl (index32 ge 1 (by decide) wx) ?_⟩
      exact ⟨_, rfl, But.refl _ _, rfl⟩
    | 8, _ =>
      obtain rfl := Option.some.inj ho
      refine ⟨hkn.guard 6 13 true rfl (by kernel_rfl) rfl (fun _ h => h), op_load _ _ _ _ rfl (hkn.val 7 14 (by kernel_rfl) rfl) (load8 ge 1 176 wx (HCE.out wx ge (HBE.out.but hbut (fun h => h))).2.1) ?_⟩
      exact ⟨_, rfl, But.refl _ _, rfl⟩
    | 9, _ =>
      obtain rfl := Option.some.inj ho
      refine ⟨hkn.guard 6 13 true rfl (by kernel_rfl) rfl (fun _ h => h), op_bin .eql _ _ _ _ _ _ _ rfl (hkn.val 8 15 (by kernel_rfl) rfl) rfl rfl (eql8 176 wx) ?_⟩
      exact ⟨_, rfl, But.refl _ _, rfl⟩
    | 10, _ =>
      obtain rfl := Option.some.inj ho
      refine ⟨Know.free rfl, op_pick _ _ _ _ rfl (hkn.val 6 13 (by kernel_rfl) rfl) rfl ?_⟩
      exact ⟨_, rfl, But.refl _ _, hkn.val 9 16 (by kernel_rfl) rfl⟩
    | 11, _ =>
      obtain rfl := Option.some.inj ho
      refine ⟨Know.free rfl, op_move _ _ rfl rfl ?_⟩
      exact ⟨_, rfl, But.refl _ _, hkn.val 10 17 (by kernel_rfl) rfl⟩
    | 12, _ =>
      obtain rfl := Option.some.inj ho
      refine ⟨hkn.guard 11 18 true rfl (by kernel_rfl) rfl (fun _ h => h), op_index _ _ _ _ _ _ rfl (hkn.was 2 (by kernel_rfl)) rfl (index32 ge 30 (by decide) wx) ?_⟩
      exact ⟨_, rfl, But.refl _ _, rfl⟩
    | 13, _ =>
      obtain rfl := Option.some.inj ho
      refine ⟨hkn.guard 11 18 true rfl (by kernel_rfl) rfl (fun _ h => h), op_load _ _ _ _ rfl (hkn.val 12 19 (by kernel_rfl) rfl) (load8 ge 30 184 wx (HCE.out wx ge (HBE.out.but hbut (fun h => h))).2.2.1) ?_⟩
      exact ⟨_, rfl, But.refl _ _, rfl⟩
    | 14, _ =>
      obtain rfl := Option.some.inj ho
      refine ⟨hkn.guard 11 18 true rfl (by kernel_rfl) rfl (fun _ h => h), op_bin .eql _ _ _ _ _ _ _ rfl (hkn.val 13 20 (by kernel_rfl) rfl) rfl rfl (eql8 184 wx) ?_⟩
      exact ⟨_, rfl, But.refl _ _, rfl⟩
    | 15, _ =>
      obtain rfl := Option.some.inj ho
      refine ⟨Know.free rfl, op_pick _ _ _ _ rfl (hkn.val 11 18 (by kernel_rfl) rfl) rfl ?_⟩
      exact ⟨_, rfl, But.refl _ _, hkn.val 14 21 (by kernel_rfl) rfl⟩
    | 16, _ =>
      obtain rfl := Option.some.inj ho
      refine ⟨Know.free rfl, op_move _ _ rfl rfl ?_⟩
      exact ⟨_, rfl, But.refl _ _, hkn.val 15 22 (by kernel_rfl) rfl⟩
    | 17, _ =>
      obtain rfl := Option.some.inj ho
      refine ⟨hkn.guard 16 23 true rfl (by kernel_rfl) rfl (fun _ h => h), op_index _ _ _ _ _ _ rfl (hkn.was 2 (by kernel_rfl)) rfl (index32 ge 31 (by decide) wx) ?_⟩
      exact ⟨_, rfl, But.refl _ _, rfl⟩
    | 18, _ =>
      obtain rfl := Option.some.inj ho
      refine ⟨hkn.guard 16 23 true rfl (by kernel_rfl) rfl (fun _ h => h), op_load _ _ _ _ rfl (hkn.val 17 24 (by kernel_rfl) rfl) (load8 ge 31 85 wx (HCE.out wx ge (HBE.out.but hbut (fun h => h))).2.2.2) ?_⟩
      exact ⟨_, rfl, But.refl _ _, rfl⟩
    | 19, _ =>
      obtain rfl := Option.some.inj ho
      refine ⟨hkn.guard 16 23 true rfl (by kernel_rfl) rfl (fun _ h => h), op_bin .eql _ _ _ _ _ _ _ rfl (hkn.val 18 25 (by kernel_rfl) rfl) rfl rfl (eql8 85 wx) ?_⟩
      exact ⟨_, rfl, But.refl _ _, rfl⟩
    | 20, _ =>
      obtain rfl := Option.some.inj ho
      refine ⟨Know.free rfl, op_pick _ _ _ _ rfl (hkn.val 16 23 (by kernel_rfl) rfl) rfl ?_⟩
      exact ⟨_, rfl, But.refl _ _, hkn.val 19 26 (by kernel_rfl) rfl⟩
    | 21, _ =>
      obtain rfl := Option.some.inj ho
      refine ⟨Know.free rfl, op_move _ _ rfl rfl ?_⟩
      exact ⟨_, rfl, But.refl _ _, hkn.val 20 27 (by kernel_rfl) rfl⟩
    | 22, _ =>
      obtain rfl := Option.some.inj ho
      refine ⟨hkn.guard 21 28 true rfl (by kernel_rfl) rfl (fun _ h => h), op_move _ _ rfl (hkn.was 1 (by kernel_rfl)) ?_⟩
      exact ⟨_, rfl, But.refl _ _, rfl⟩
    | 23, _ =>
      obtain rfl := Option.some.inj ho
      have e := hkn.val 22 29 (by kernel_rfl) rfl
      refine ⟨hkn.guard 21 28 true rfl (by kernel_rfl) rfl (fun _ h => h), op_call 16 [_] _ #[.pointer none] rfl (by show #[a.eval (.tmp 29)] = _; rw [e]) (callSum _ _) ((HSU.out wx none (HB5.out.trans hbut) (.inl rfl)).mono ?_)⟩
      rintro e u ⟨rfl, hu⟩
      exact ⟨_, rfl, _, rfl, hu, rfl⟩
    | 24, _ =>
      obtain rfl := Option.some.inj ho
      refine ⟨hkn.guard 21 28 true rfl (by kernel_rfl) rfl (fun _ h => h), op_load32 _ rfl ge D HDL.out (hkn.was 2 (by kernel_rfl)) (HBE.out.but hbut (fun h => h)) ?_⟩
      exact ⟨_, rfl, But.refl _ _, by show Value.agg _ = Value.agg C; rw [HC.out]⟩
    | 25, _ =>
      obtain rfl := Option.some.inj ho
      refine ⟨hkn.guard 21 28 true rfl (by kernel_rfl) rfl (fun _ h => h), op_bin .eql _ _ _ _ (.agg C) (.agg C) (.bool true) rfl (hkn.val 23 30 (by kernel_rfl) rfl) (hkn.val 24 31 (by kernel_rfl) rfl) (guard32 _ _ _ _ _) (HEQ.out wx) ?_⟩
      exact ⟨_, rfl, But.refl _ _, rfl⟩
    | 26, _ =>
      obtain rfl := Option.some.inj ho
      refine ⟨Know.free rfl, op_pick _ _ _ _ rfl (hkn.val 21 28 (by kernel_rfl) rfl) rfl ?_⟩
      exact ⟨_, rfl, But.refl _ _, hkn.val 25 32 (by kernel_rfl) rfl⟩
    | 27, _ =>
      obtain rfl := Option.some.inj ho
      refine ⟨Know.free rfl, op_move _ _ rfl rfl ?_⟩
      exact ⟨_, rfl, But.refl _ _, hkn.val 26 33 (by kernel_rfl) rfl⟩
    | 28, _ =>
      obtain rfl := Option.some.inj ho
      refine ⟨hkn.guard 27 34 true rfl (by kernel_rfl) rfl (fun _ h => h), op_move _ _ rfl (hkn.was 1 (by kernel_rfl)) ?_⟩
      exact ⟨_, rfl, But.refl _ _, rfl⟩
    | 29, _ =>
      obtain rfl := Option.some.inj ho
      have e := hkn.val 28 35 (by kernel_rfl) rfl
      refine ⟨hkn.guard 27 34 true rfl (by kernel_rfl) rfl (fun _ h => h), op_call 18 [_] _ #[.pointer none] rfl (by show #[a.eval (.tmp 35)] = _; rw [e]) (callLen _ _) (len_nil.mono ?_)⟩
      rintro e u ⟨rfl, rfl⟩
      exact ⟨_, rfl, _, rfl, But.refl _ _, rfl⟩
    | 30, _ =>
      obtain rfl := Option.some.inj ho
      refine ⟨hkn.guard 27 34 true rfl (by kernel_rfl) rfl (fun _ h => h), op_bin .eql _ _ _ _ _ _ _ rfl (hkn.val 29 36 (by kernel_rfl) rfl) rfl rfl (HEQI.out wx) ?_⟩
      exact ⟨_, rfl, But.refl _ _, rfl⟩
    | 31, _ =>
      obtain rfl := Option.some.inj ho
      refine ⟨Know.free rfl, op_pick _ _ _ _ rfl (hkn.val 27 34 (by kernel_rfl) rfl) rfl ?_⟩
      exact ⟨_, rfl, But.refl _ _, hkn.val 30 37 (by kernel_rfl) rfl⟩
    | 32, _ =>
      obtain rfl := Option.some.inj ho
      refine ⟨Know.free rfl, op_move _ _ rfl rfl ?_⟩
      exact ⟨_, rfl, But.refl _ _, hkn.val 31 38 (by kernel_rfl) rfl⟩
    | 33, _ =>
      obtain rfl := Option.some.inj ho
      refine ⟨hkn.guard 32 39 true rfl (by kernel_rfl) rfl (fun _ h => h), op_call 15 [] _ #[] rfl rfl (callNew _ _) (new_any.mono ?_)⟩
      rintro e u ⟨rfl, hz, hu⟩
      exact ⟨_, rfl, _, rfl, hu, _, rfl, Sm.zero hz⟩
    | 34, _ =>
      obtain rfl := Option.some.inj ho
      obtain ⟨g9, e, hs⟩ := hkn.val 33 40 (by kernel_rfl) rfl
      refine ⟨hkn.guard 32 39 true rfl (by kernel_rfl) rfl (fun _ h => h), op_call 16 [_] _ #[.pointer (some ⟨g9, 0, none⟩)] rfl (by show #[a.eval (.tmp 40)] = _; rw [e]) (callSum _ _) ((HSU.out wx _ (HB5.out.trans hbut) (.inr ⟨g9, rfl, hs⟩)).mono ?_)⟩
      rintro e u ⟨rfl, hu⟩
      exact ⟨_, rfl, _, rfl, hu, rfl⟩
    | 35, _ =>
      obtain rfl := Option.some.inj ho
      refine ⟨hkn.guard 32 39 true rfl (by kernel_rfl) rfl (fun _ h => h), op_load32 _ rfl ge D HDL.out (hkn.was 2 (by kernel_rfl)) (HBE.out.but hbut (fun h => h)) ?_⟩
      exact ⟨_, rfl, But.refl _ _, by show Value.agg _ = Value.agg C; rw [HC.out]⟩
    | 36, _ =>
      obtain rfl := Option.some.inj ho
      refine ⟨hkn.guard 32 39 true rfl (by kernel_rfl) rfl (fun _ h => h), op_bin .eql _ _ _ _ (.agg C) (.agg C) (.bool true) rfl (hkn.val 34 41 (by kernel_rfl) rfl) (hkn.val 35 42 (by kernel_rfl) rfl) (guard32 _ _ _ _ _) (HEQ.out wx) ?_⟩
      exact ⟨_, rfl, But.refl _ _, rfl⟩
    | 37, _ =>
      obtain rfl := Option.some.inj ho
      refine ⟨Know.free rfl, op_pick _ _ _ _ rfl (hkn.val 32 39 (by kernel_rfl) rfl) rfl ?_⟩
      exact ⟨_, rfl, But.refl _ _, hkn.val 36 43 (by kernel_rfl) rfl⟩
    | 38, _ =>
      obtain rfl := Option.some.inj ho
      refine ⟨Know.free rfl, op_assign _ _ rfl rfl ?_⟩
      exact ⟨_, rfl, But.refl _ _, hkn.val 37 44 (by kernel_rfl) rfl⟩
    | k + 39, h => exact absurd h (by simp)
  · intro a wx hbut hdef hdone hold
    obtain ⟨v4, hv4, hr4⟩ := hdone 38 0 rfl
    have e4 : a.tmps.getD 0 undef = .bool true := by rw [Array.getD_eq_getD_getElem?, hv4]; exact hr4
    go_wp2
    refine bodyPost_ret (results_tmp rfl a.tmps Tryd.prog wx) (hdef.trans rfl) ?_
    exact ⟨by rw [e4], (HB5.out.trans hbut).below (Nat.le_refl _) (fun _ _ h => h)⟩
end Go.Proofs.YtmilmaljahjgeaaDoor
