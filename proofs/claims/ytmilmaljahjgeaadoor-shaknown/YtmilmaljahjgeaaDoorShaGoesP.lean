/- ShaGoesOn. -/
import Derived.Test.YtmilmaljahjgeaaDoorShaEq
import Derived.Test.YtmilmaljahjgeaaDoorShaAwake
import Derived.Test.YtmilmaljahjgeaaDoorGrows
namespace Go.Proofs.YtmilmaljahjgeaaDoor
open Go.ChangeShapes Go.WideShapes Go.ChangeAt Go.RowKit

section
variable {P : Program} {w w' : World} {o : Oper} {a : Act} {K : Act → World → Prop} {Q : Exit → Act → World → Prop}
theorem op_move (x : Operand) (v : Value) (ho : o.op = .move x) (hx : a.eval x = v) (h : K (a.put o.dst v) w) : o.wp P a w K Q := by
  refine op_value v ?_ h
  unfold execOp
  simp only [ho, hx]
  rfl
theorem op_assign (x : Operand) (v : Value) (ho : o.op = .assign x) (hx : a.eval x = v) (h : K (a.put o.dst v) w) : o.wp P a w K Q := by
  refine op_value v ?_ h
  unfold execOp
  simp only [ho, hx]
  rfl
theorem op_pick (c x y : Operand) (v : Value) (ho : o.op = .pick c x y) (hc : a.eval c = .bool true) (hx : a.eval x = v) (h : K (a.put o.dst v) w) : o.wp P a w K Q := by
  refine op_value v ?_ h
  unfold execOp
  simp only [ho, hx, hc]
  rfl
theorem op_bin (op : BinOp) (t t' : TypeId) (x y : Operand) (u1 u2 v : Value) (ho : o.op = .binOp op t x y t') (hx : a.eval x = u1) (hy : a.eval y = u2) (hg : (eqGuard op t x y u1 u2).run P w = .ok () w) (hr : (binOp op t u1 u2).run P w = .ok v w) (h : K (a.put o.dst v) w) : o.wp P a w K Q := by
  refine op_value v ?_ h
  unfold execOp
  simp only [ho, hx, hy, Sem.run_bind, hg, hr, Result.andThen_ok, Sem.run_pure]
theorem op_len (t : TypeId) (x : Operand) (ao : Option Addr) (n c : Nat) (ho : o.op = .call { callee := .builtin .len, args := #[x], argTypes := #[t] }) (hx : a.eval x = .slice ao n c) (hr : (Builtin.len_ #[t] o.type #[.slice ao n c]).run P w = .ok (.int .i64 (n : Int)) w) (h : K (a.put o.dst (.int .i64 (n : Int))) w) : o.wp P a w K Q := by
  refine op_value (.int .i64 (n : Int)) ?_ h
  unfold execOp
  simp only [ho, resolve, invoke, builtin, Sem.run_bind, Sem.run_pure, Result.andThen_ok, List.map_toArray, List.map_cons, List.map_nil, hx, hr]
theorem op_build1 (t : TypeId) (x : Operand) (u v : Value) (ho : o.op = .buildSlice t 1 #[(0, x)]) (hx : a.eval x = u) (hr : (Instr.buildSlice t 1 #[(0, u)]).run P w = .ok v w') (h : K (a.put o.dst v) w') : o.wp P a w K Q := by
  refine op_value (w' := w') v ?_ h
  unfold execOp
  simp only [ho, List.map_toArray, List.map_cons, List.map_nil, hx, Sem.run_bind, hr, Result.andThen_ok, Sem.run_pure]
theorem op_build2 (t : TypeId) (x y : Operand) (u u2 v : Value) (ho : o.op = .buildSlice t 2 #[(0, x), (1, y)]) (hx : a.eval x = u) (hy : a.eval y = u2) (hr : (Instr.buildSlice t 2 #[(0, u), (1, u2)]).run P w = .ok v w') (h : K (a.put o.dst v) w') : o.wp P a w K Q := by
  refine op_value (w' := w') v ?_ h
  unfold execOp
  simp only [ho, List.map_toArray, List.map_cons, List.map_nil, hx, hy, Sem.run_bind, hr, Result.andThen_ok, Sem.run_pure]
end
theorem op_load32 {w : World} {o : Oper} {a : Act} {K : Act → World → Prop} {Q : Exit → Act → World → Prop} (x : Operand) (ho : o.op = .load 25 x)
    (g : Nat) (D : List Nat) (hD : D.length = 32) (hx : a.eval x = .pointer (some ⟨g, 0, none⟩)) (hb : Blk w g 25 (u8s D))
    (h : K (a.put o.dst (.agg (u8s D).toArray)) w) : o.wp Tryd.prog a w K Q :=
  wp_load_row 25 x ho g hx 25 _ (0, 0) _ hb Tryd.underlying25 rfl (by rw [show (Tryd.prog.info? 25).map (·.size) = some 32 by kernel_rfl]; simp [u8s, hD]) h
theorem len22 (ty : TypeId) (ao : Option Addr) (n c : Nat) (w : World) : (Builtin.len_ #[22] ty #[.slice ao n c]).run Tryd.prog w = .ok (.int .i64 (n : Int)) w := by kernel_rfl
theorem callSum (args : Array Value) (w : World) : (callFunc 16 args).run Tryd.prog w = .ok (.enter 16 args) w := by kernel_rfl
theorem callOf (args : Array Value) (w : World) : (callFunc 10 args).run Tryd.prog w = .ok (.enter 10 args) w := by kernel_rfl
theorem callLen (args : Array Value) (w : World) : (callFunc 18 args).run Tryd.prog w = .ok (.enter 18 args) w := by kernel_rfl
theorem callAwake (args : Array Value) (w : World) : (callFunc 8 args).run Tryd.prog w = .ok (.enter 8 args) w := by kernel_rfl
theorem guard32 (x y : Operand) (A B : Array Value) (w : World) : (eqGuard .eql 25 x y (.agg A) (.agg B)).run Tryd.prog w = .ok () w := run_eqGuard_agg (P := Tryd.prog) (w := w) .eql 25 x y A B (by kernel_rfl)
theorem build1 (ao : Option Addr) (n c : Nat) (w : World) : (Instr.buildSlice 30 1 #[(0, .slice ao n c)]).run Tryd.prog w = .ok (.slice (some ⟨w.heap.size, 0, none⟩) 1 1) (w.alloc (.cells #[.slice ao n c] 22)) := by kernel_rfl
theorem build2 (ao bo : Option Addr) (n c m d : Nat) (w : World) : (Instr.buildSlice 30 2 #[(0, .slice ao n c), (1, .slice bo m d)]).run Tryd.prog w = .ok (.slice (some ⟨w.heap.size, 0, none⟩) 2 2) (w.alloc (.cells #[.slice ao n c, .slice bo m d] 22)) := by kernel_rfl

set_option maxRecDepth 100000 in
set_option maxHeartbeats 40000000 in
theorem shaGoesOn_walk (v0 : Value) (xs : List Nat) (v1 : Value) (ys : List Nat) (w : World) (hk : Kw w) (hh : Hw w) (hx : Bs w v0 xs ∧ xs.length ≤ 140737488351232) (hy : Bs w v1 ys ∧ ys.length ≤ 140737488351232) :
    Calls Tryd.prog 6 #[v0, v1] w fun e w' => e = .returned (.bool true) ∧ Below w.heap.size w w' := by
  have h2 : 2 ≤ w.heap.size := hk.lt
  have HX := Hid.mk' hx.1
  have HY := Hid.mk' hy.1
  have HK := Hid.mk' hk
  have HH := Hid.mk' hh
  obtain ⟨ao, cap, rfl, -, -⟩ := hx.1.gen
  obtain ⟨bo, bcap, rfl, -, -⟩ := hy.1.gen
  obtain ⟨n, hn⟩ : ∃ n, n = xs.length := ⟨_, rfl⟩
  obtain ⟨m, hm⟩ : ∃ m, m = ys.length := ⟨_, rfl⟩
  have hn1 : n ≤ 140737488351232 := by rw [hn]; exact hx.2
  have hm1 : m ≤ 140737488351232 := by rw [hm]; exact hy.2
  have HAW := Hid.mk' (awake_any hk hh)
  rw [← hn, ← hm]
  rw [← hn] at HX
  rw [← hm] at HY
  have HNM := Hid.mk' (And.intro hn hm)
  clear hx hy hk hh hn hm
  go_enter Tryd.func6, Tryd.ntmps6
  by_cases hbx : 20000 < n
  · have hbi : (20000 : Int) < (n : Int) := by omega
    have hbd : decide ((20000 : Int) < (n : Int)) = true := decide_eq_true hbi
    go_wp2_with (go_at_call 8; refine Calls.mono HAW.out ?_; rintro e w1 ⟨rfl, hb1⟩)
    all_goals
      go_ret
      exact ⟨rfl, hb1.below (Nat.le_refl _) (fun _ _ h => h)⟩
  by_cases hby : 20000 < m
  · have hbi : ¬ (20000 : Int) < (n : Int) := by omega
    have hbd : decide ((20000 : Int) < (n : Int)) = false := decide_eq_false hbi
    have hbj : (20000 : Int) < (m : Int) := by omega
    have hbe : decide ((20000 : Int) < (m : Int)) = true := decide_eq_true hbj
    go_wp2_with (go_at_call 8; refine Calls.mono HAW.out ?_; rintro e w1 ⟨rfl, hb1⟩)
    all_goals
      go_ret
      exact ⟨rfl, hb1.below (Nat.le_refl _) (fun _ _ h => h)⟩
  have hbi : ¬ (20000 : Int) < (n : Int) := by omega
  have hbd : decide ((20000 : Int) < (n : Int)) = false := decide_eq_false hbi
  have hbj : ¬ (20000 : Int) < (m : Int) := by omega
  have hbe : decide ((20000 : Int) < (m : Int)) = false := decide_eq_false hbj
  obtain ⟨hn, hm⟩ := HNM.out
  have hz2 : ∀ w : World, (zeroValue 25).run Tryd.prog w = .ok (.agg (u8s (List.replicate 32 0)).toArray) w := fun _ => by kernel_rfl
  obtain ⟨O, hO⟩ : ∃ O, O = (u8s (List.replicate 32 0)).toArray := ⟨_, rfl⟩
  rw [← hO] at hz2
  have HO := Hid.mk' hO
  have HLN : Hid (xs.length ≤ 20000 ∧ ys.length ≤ 20000) := by show _ ∧ _; omega
  clear hO hn hm
  go_wp2_with fail
  refine Calls.mono new_any ?_
  rintro e w1 ⟨rfl, hz1, hb1⟩
  have HS1 := Hid.mk' (Sm.zero hz1)
  have HB1 := Hid.mk' hb1
  have hsz1 : w.heap.size + 1 ≤ w1.heap.size := hz1.lt
  clear hz1 hb1
  go_wp2_with fail
  refine Calls.mono new_any ?_
  rintro e w2 ⟨rfl, hz2', hb2⟩
  have HS2 := Hid.mk' (Sm.zero hz2')
  have HS1b := Hid.mk' (HS1.out.but hb2 (fun h => h))
  have HB2 := Hid.mk' (HB1.out.trans hb2)
  clear hz2' hb2
  have HX2 := HX.out.but HB2.out (fun _ _ _ h => h)
  go_wp2_with fail
  have hlx := HLN.out
  refine Calls.mono (write_any HX2 HS1b.out (HK.out.but HB2.out (fun h => h)) (HH.out.but HB2.out (fun h => h)) h2 (fun h0 => HX.out.own h0 (Nat.le_refl _)) (by simp only [List.length_nil]; omega)) ?_
  rintro e w3 ⟨rfl, hs3, hb3⟩
  rw [List.nil_append] at hs3
  have hne : w1.heap.size ≠ w.heap.size := by omega
  have HS3 := Hid.mk' hs3
  have HT3 := Hid.mk' (HS2.out.but hb3 hne)
  have HB3 := Hid.mk' (HB2.out.then hb3 (fun i hi e => by omega))
  clear hs3 hb3 HX2
  go_wp2_with fail
  refine Calls.mono (sum_any (.inr ⟨_, rfl, HS3.out⟩) (HK.out.but HB3.out (fun h => h)) (HH.out.but HB3.out (fun h => h)) (by omega)) ?_
  rintro e w4 ⟨rfl, hb4⟩
  obtain ⟨D, hD⟩ : ∃ D, D = digest xs := ⟨_, rfl⟩
  rw [← hD]
  have HD := Hid.mk' hD
  have HDL : Hid (D.length = 32) := by show _ = _; rw [hD]; exact digest_len _
  have HS4 := Hid.mk' (HS3.out.but hb4 (fun h => h))
  have HT4 := Hid.mk' (HT3.out.but hb4 (fun h => h))
  have HB4 := Hid.mk' (HB3.out.trans hb4)
  have hsz4 := HB4.out.size
  have hg1 : w.heap.size < w4.heap.size := HS4.out.lt
  have hg2 : w1.heap.size < w4.heap.size := HT4.out.lt
  obtain ⟨C, hC⟩ : ∃ C, C = (u8s D).toArray := ⟨_, rfl⟩
  rw [← hC]
  have HC := Hid.mk' hC
  clear hb4 hD hC
  go_wp2_with (refine wpList_store_digest rfl _ _ rfl w4.heap.size D HDL.out rfl (by rw [← HC.out]; rfl) (u8s (List.replicate 32 0)) rfl (by rw [HO.out]; exact Blk.new rfl) ?_; intro w5 hd5 hb5)
  have q5 : But (fun _ => False) w4 w5 := ((But.refl _ w4).alloc _).then hb5 (fun i hi e => by omega)
  have HS5 := Hid.mk' (HS4.out.but q5 (fun h => h))
  have HT5 := Hid.mk' (HT4.out.but q5 (fun h => h))
  have HB5 := Hid.mk' (HB4.out.trans q5)
  have HD5 := Hid.mk' hd5
  clear hd5 hb5 q5
  have HY5 := HY.out.but HB5.out (fun _ _ _ h => h)
  refine Calls.mono (write_any HY5 HS5.out (HK.out.but HB5.out (fun h => h)) (HH.out.but HB5.out (fun h => h)) h2 (fun h0 => HY.out.own h0 (Nat.le_refl _)) (by omega)) ?_
  rintro e w6 ⟨rfl, hs6, hb6⟩
  have HS6 := Hid.mk' hs6
  have HT6 := Hid.mk' (HT5.out.but hb6 hne)
  have HD6 := Hid.mk' (HD5.out.but hb6 (by omega))
  have HB6 := Hid.mk' (HB5.out.then hb6 (fun i hi e => by omega))
  clear hs6 hb6 HY5
  go_wp2_with fail
  have HX6 := HX.out.but HB6.out (fun _ _ _ h => h)
  refine Calls.mono (write_any HX6 HT6.out (HK.out.but HB6.out (fun h => h)) (HH.out.but HB6.out (fun h => h)) (by omega) (fun h0 => HX.out.own h0 (by omega)) (by simp only [List.length_nil]; omega)) ?_
  rintro e w7 ⟨rfl, ht7, hb7⟩
  rw [List.nil_append] at ht7
  have HT7 := Hid.mk' ht7
  have HS7 := Hid.mk' (HS6.out.but hb7 (by omega))
  have HD7 := Hid.mk' (HD6.out.but hb7 (by omega))
  have HB7 := Hid.mk' (HB6.out.then hb7 (fun i hi e => by omega))
  clear ht7 hb7 HX6
  go_wp2_with fail
  have HY7 := HY.out.but HB7.out (fun _ _ _ h => h)
  refine Calls.mono (write_any HY7 HT7.out (HK.out.but HB7.out (fun h => h)) (HH.out.but HB7.out (fun h => h)) (by omega) (fun h0 => HY.out.own h0 (by omega)) (by omega)) ?_
  rintro e w8 ⟨rfl, ht8, hb8⟩
  have HT8 := Hid.mk' ht8
  have HS8 := Hid.mk' (HS7.out.but hb8 (by omega))
  have HD8 := Hid.mk' (HD7.out.but hb8 (by omega))
  have HB8 := Hid.mk' (HB7.out.then hb8 (fun i hi e => by omega))
  clear ht8 hb8 HY7
  obtain ⟨E, hE⟩ : ∃ E, E = digest (xs ++ ys) := ⟨_, rfl⟩
  have HEL : Hid (E.length = 32) := by show _ = _; rw [hE]; exact digest_len _
  obtain ⟨CE, hCE⟩ : ∃ CE, CE = (u8s E).toArray := ⟨_, rfl⟩
  have heq1 := eql_same E HEL.out
  have heq2 := eql_same D HDL.out
  rw [← hCE] at heq1
  rw [← HC.out] at heq2
  have hk8 := HK.out.but HB8.out (fun h => h)
  have hh8 := HH.out.but HB8.out (fun h => h)
  have HSU : Hid (∀ (wx : World) (g : Nat), But (fun _ => False) w8 wx → (g = w.heap.size ∨ g = w1.heap.size) → Calls Tryd.prog 16 #[.pointer (some ⟨g, 0, none⟩)] wx fun e w' => e = .returned (.agg CE) ∧ But (fun _ => False) wx w') := by
    intro wx g h1 h2
    have hs : Sm wx g (xs ++ ys) := by rcases h2 with rfl | rfl; exact HS8.out.but h1 (fun h => h); exact HT8.out.but h1 (fun h => h)
    refine (sum_any (.inr ⟨g, rfl, hs⟩) (hk8.but h1 (fun h => h)) (hh8.but h1 (fun h => h)) (by rw [List.length_append]; omega)).mono ?_
    rintro e w' ⟨rfl, h4⟩
    exact ⟨by rw [hCE, hE], h4⟩
  have HOF1 : Hid (∀ (wx : World) (v : Value), Ps wx v [xs] → But (fun _ => False) w8 wx → Calls Tryd.prog 10 #[v] wx fun e w' => e = .returned (.agg C) ∧ But (fun _ => False) wx w') := by
    intro wx v h1 h2
    have e1 : [xs].flatten = xs := by simp
    refine (of_any h1 (hk8.but h2 (fun h => h)) (hh8.but h2 (fun h => h)) (by rw [e1]; omega) (by simp)).mono ?_
    rintro e w' ⟨rfl, h4⟩
    exact ⟨by rw [e1, HC.out, HD.out], h4⟩
  have HOF2 : Hid (∀ (wx : World) (v : Value), Ps wx v [xs, ys] → But (fun _ => False) w8 wx → Calls Tryd.prog 10 #[v] wx fun e w' => e = .returned (.agg CE) ∧ But (fun _ => False) wx w') := by
    intro wx v h1 h2
    have e1 : [xs, ys].flatten = xs ++ ys := by simp
    refine (of_any h1 (hk8.but h2 (fun h => h)) (hh8.but h2 (fun h => h)) (by rw [e1, List.length_append]; omega) (by simp)).mono ?_
    rintro e w' ⟨rfl, h4⟩
    exact ⟨by rw [e1, hCE, hE], h4⟩
  have HLE : Hid (∀ wx : World, But (fun _ => False) w8 wx → Calls Tryd.prog 18 #[.pointer (some ⟨w.heap.size, 0, none⟩)] wx fun e w' => e = .returned (.int .i64 ((n : Int) + (m : Int))) ∧ w' = wx) := by
    intro wx h1
    have h := len_any (HS8.out.but h1 (fun h => h)).len
    obtain ⟨hn, hm⟩ := HNM.out
    rw [List.length_append, ← hn, ← hm] at h
    exact h
  have HAW8 : Hid (∀ wx : World, But (fun _ => False) w8 wx → Calls Tryd.prog 8 #[] wx fun e w' => e = .returned (.bool true) ∧ But (fun _ => False) wx w') := by
    intro wx h1
    exact awake_any (hk8.but h1 (fun h => h)) (hh8.but h1 (fun h => h))
  have HP1 : Hid (∀ u : World, But (fun _ => False) w8 u → Ps (u.alloc (.cells #[.slice ao n cap] 22)) (.slice (some ⟨u.heap.size, 0, none⟩) 1 1) [xs]) :=
    fun u h => Ps.one ((HX.out.but HB8.out (fun _ _ _ h => h)).but h (fun _ _ _ h => h))
  have HP2 : Hid (∀ u : World, But (fun _ => False) w8 u → Ps (u.alloc (.cells #[.slice ao n cap, .slice bo m bcap] 22)) (.slice (some ⟨u.heap.size, 0, none⟩) 2 2) [xs, ys]) :=
    fun u h => Ps.two ((HX.out.but HB8.out (fun _ _ _ h => h)).but h (fun _ _ _ h => h)) ((HY.out.but HB8.out (fun _ _ _ h => h)).but h (fun _ _ _ h => h))
  have hwn : IntKind.i64.wrap ((n : Int) + (m : Int)) = (n : Int) + (m : Int) := by rw [IntKind.wrap_i64]; omega
  clear hE hCE hk8 hh8 HS1 HS1b HS2 HS3 HS4 HS5 HS6 HS7 HT3 HT4 HT5 HT6 HT7 HB1 HB2 HB3 HB4 HB5 HB6 HB7 HD5 HD6 HD7 hlx hz2
  have HADD : Hid (∀ wx : World, (binOp .add 3 (.int .i64 (n : Int)) (.int .i64 (m : Int))).run Tryd.prog wx = .ok (.int .i64 ((n : Int) + (m : Int))) wx) := by
    intro wx; simp [go_sem, hwn]
  have HEQI : Hid (∀ wx : World, (binOp .eql 3 (.int .i64 ((n : Int) + (m : Int))) (.int .i64 ((n : Int) + (m : Int)))).run Tryd.prog wx = .ok (.bool true) wx) := by
    intro wx; simp [go_sem]
  have HEQ1 := Hid.mk' heq1
  have HEQ2 := Hid.mk' heq2
  clear heq1 heq2 hwn
  go_wp2
  generalize w4.heap.size = gd at *
  refine region_grow (by kernel_rfl) (by kernel_rfl) (by kernel_rfl) (fun i v wx => match i with
      | 0 | 13 | 22 => v = .pointer (some ⟨w.heap.size, 0, none⟩)
      | 2 => v = .pointer (some ⟨w1.heap.size, 0, none⟩)
      | 1 | 3 | 14 | 18 => v = .agg CE
      | 6 | 9 => v = .agg C
      | 7 | 15 | 24 => v = .slice ao n cap
      | 16 | 26 => v = .slice bo m bcap
      | 8 => Ps wx v [xs]
      | 17 => Ps wx v [xs, ys]
      | 23 | 28 => v = .int .i64 ((n : Int) + (m : Int))
      | 25 => v = .int .i64 (n : Int)
      | 27 => v = .int .i64 (m : Int)
      | _ => v = .bool true) ?_ ?_ ?_
  · intro i v wx wy h k
    split at h
    all_goals first | exact h | exact Ps.below h k
  · intro i o a wx ho hbut hkn
    match i, (Array.getElem?_eq_some_iff.1 ho).1 with
    | 0, _ =>
      obtain rfl := Option.some.inj ho
      refine ⟨Know.free rfl, op_move _ _ rfl (hkn.was 5 (by kernel_rfl)) ?_⟩
      exact ⟨_, rfl, But.refl _ _, rfl⟩
    | 1, _ =>
      obtain rfl := Option.some.inj ho
      have e := hkn.val 0 33 (by kernel_rfl) rfl
      refine ⟨Know.free rfl, op_call 16 [_] _ #[.pointer (some ⟨w.heap.size, 0, none⟩)] rfl (by show #[a.eval (.tmp 33)] = _; rw [e]) (callSum _ _) ((HSU.out wx _ hbut (.inl rfl)).mono ?_)⟩
      rintro e u ⟨rfl, hu⟩
      exact ⟨_, rfl, _, rfl, hu, rfl⟩
    | 2, _ =>
      obtain rfl := Option.some.inj ho
      refine ⟨Know.free rfl, op_move _ _ rfl (hkn.was 6 (by kernel_rfl)) ?_⟩
      exact ⟨_, rfl, But.refl _ _, rfl⟩
    | 3, _ =>
      obtain rfl := Option.some.inj ho
      have e := hkn.val 2 35 (by kernel_rfl) rfl
      refine ⟨Know.free rfl, op_call 16 [_] _ #[.pointer (some ⟨w1.heap.size, 0, none⟩)] rfl (by show #[a.eval (.tmp 35)] = _; rw [e]) (callSum _ _) ((HSU.out wx _ hbut (.inr rfl)).mono ?_)⟩
      rintro e u ⟨rfl, hu⟩
      exact ⟨_, rfl, _, rfl, hu, rfl⟩
    | 4, _ =>
      obtain rfl := Option.some.inj ho
      refine ⟨Know.free rfl, op_bin .eql _ _ _ _ (.agg CE) (.agg CE) (.bool true) rfl (hkn.val 1 34 (by kernel_rfl) rfl) (hkn.val 3 36 (by kernel_rfl) rfl) (guard32 _ _ _ _ _) (HEQ1.out wx) ?_⟩
      exact ⟨_, rfl, But.refl _ _, rfl⟩
    | 5, _ =>
      obtain rfl := Option.some.inj ho
      refine ⟨Know.free rfl, op_move _ _ rfl rfl ?_⟩
      exact ⟨_, rfl, But.refl _ _, hkn.val 4 37 (by kernel_rfl) rfl⟩
    | 6, _ =>
      obtain rfl := Option.some.inj ho
      refine ⟨hkn.guard 5 38 true rfl (by kernel_rfl) rfl (fun _ h => h), op_load32 _ rfl gd D HDL.out (hkn.was 7 (by kernel_rfl)) (HD8.out.but hbut (fun h => h)) ?_⟩
      exact ⟨_, rfl, But.refl _ _, by show Value.agg _ = Value.agg C; rw [HC.out]⟩
    | 7, _ =>
      obtain rfl := Option.some.inj ho
      refine ⟨hkn.guard 5 38 true rfl (by kernel_rfl) rfl (fun _ h => h), op_move _ _ rfl (hkn.was 0 (by kernel_rfl)) ?_⟩
      exact ⟨_, rfl, But.refl _ _, rfl⟩
    | 8, _ =>
      obtain rfl := Option.some.inj ho
      refine ⟨hkn.guard 5 38 true rfl (by kernel_rfl) rfl (fun _ h => h), op_build1 _ _ _ _ rfl (hkn.val 7 40 (by kernel_rfl) rfl) (build1 _ _ _ _) ?_⟩
      exact ⟨_, rfl, (But.refl _ _).alloc _, HP1.out wx hbut⟩
    | 9, _ =>
      obtain rfl := Option.some.inj ho
      refine ⟨hkn.guard 5 38 true rfl (by kernel_rfl) rfl (fun _ h => h), op_call 10 [_] _ #[a.eval (.tmp 41)] rfl rfl (callOf _ _) ((HOF1.out wx _ (hkn.val 8 41 (by kernel_rfl) rfl) hbut).mono ?_)⟩
      rintro e u ⟨rfl, hu⟩
      exact ⟨_, rfl, _, rfl, hu, rfl⟩
    | 10, _ =>
      obtain rfl := Option.some.inj ho
      refine ⟨hkn.guard 5 38 true rfl (by kernel_rfl) rfl (fun _ h => h), op_bin .eql _ _ _ _ (.agg C) (.agg C) (.bool true) rfl (hkn.val 6 39 (by kernel_rfl) rfl) (hkn.val 9 42 (by kernel_rfl) rfl) (guard32 _ _ _ _ _) (HEQ2.out wx) ?_⟩
      exact ⟨_, rfl, But.refl _ _, rfl⟩
    | 11, _ =>
      obtain rfl := Option.some.inj ho
      refine ⟨Know.free rfl, op_pick _ _ _ _ rfl (hkn.val 5 38 (by kernel_rfl) rfl) rfl ?_⟩
      exact ⟨_, rfl, But.refl _ _, hkn.val 10 43 (by kernel_rfl) rfl⟩
    | 12, _ =>
      obtain rfl := Option.some.inj ho
      refine ⟨Know.free rfl, op_move _ _ rfl rfl ?_⟩
      exact ⟨_, rfl, But.refl _ _, hkn.val 11 44 (by kernel_rfl) rfl⟩
    | 13, _ =>
      obtain rfl := Option.some.inj ho
      refine ⟨hkn.guard 12 45 true rfl (by kernel_rfl) rfl (fun _ h => h), op_move _ _ rfl (hkn.was 5 (by kernel_rfl)) ?_⟩
      exact ⟨_, rfl, But.refl _ _, rfl⟩
    | 14, _ =>
      obtain rfl := Option.some.inj ho
      have e := hkn.val 13 46 (by kernel_rfl) rfl
      refine ⟨hkn.guard 12 45 true rfl (by kernel_rfl) rfl (fun _ h => h), op_call 16 [_] _ #[.pointer (some ⟨w.heap.size, 0, none⟩)] rfl (by show #[a.eval (.tmp 46)] = _; rw [e]) (callSum _ _) ((HSU.out wx _ hbut (.inl rfl)).mono ?_)⟩
      rintro e u ⟨rfl, hu⟩
      exact ⟨_, rfl, _, rfl, hu, rfl⟩
    | 15, _ =>
      obtain rfl := Option.some.inj ho
      refine ⟨hkn.guard 12 45 true rfl (by kernel_rfl) rfl (fun _ h => h), op_move _ _ rfl (hkn.was 0 (by kernel_rfl)) ?_⟩
      exact ⟨_, rfl, But.refl _ _, rfl⟩
    | 16, _ =>
      obtain rfl := Option.some.inj ho
      refine ⟨hkn.guard 12 45 true rfl (by kernel_rfl) rfl (fun _ h => h), op_move _ _ rfl (hkn.was 1 (by kernel_rfl)) ?_⟩
      exact ⟨_, rfl, But.refl _ _, rfl⟩
    | 17, _ =>
      obtain rfl := Option.some.inj ho
      refine ⟨hkn.guard 12 45 true rfl (by kernel_rfl) rfl (fun _ h => h), op_build2 _ _ _ _ _ _ rfl (hkn.val 15 48 (by kernel_rfl) rfl) (hkn.val 16 49 (by kernel_rfl) rfl) (build2 _ _ _ _ _ _ _) ?_⟩
      exact ⟨_, rfl, (But.refl _ _).alloc _, HP2.out wx hbut⟩
    | 18, _ =>
      obtain rfl := Option.some.inj ho
      refine ⟨hkn.guard 12 45 true rfl (by kernel_rfl) rfl (fun _ h => h), op_call 10 [_] _ #[a.eval (.tmp 50)] rfl rfl (callOf _ _) ((HOF2.out wx _ (hkn.val 17 50 (by kernel_rfl) rfl) hbut).mono ?_)⟩
      rintro e u ⟨rfl, hu⟩
      exact ⟨_, rfl, _, rfl, hu, rfl⟩
    | 19, _ =>
      obtain rfl := Option.some.inj ho
      refine ⟨hkn.guard 12 45 true rfl (by kernel_rfl) rfl (fun _ h => h), op_bin .eql _ _ _ _ (.agg CE) (.agg CE) (.bool true) rfl (hkn.val 14 47 (by kernel_rfl) rfl) (hkn.val 18 51 (by kernel_rfl) rfl) (guard32 _ _ _ _ _) (HEQ1.out wx) ?_⟩
      exact ⟨_, rfl, But.refl _ _, rfl⟩
    | 20, _ =>
      obtain rfl := Option.some.inj ho
      refine ⟨Know.free rfl, op_pick _ _ _ _ rfl (hkn.val 12 45 (by kernel_rfl) rfl) rfl ?_⟩
      exact ⟨_, rfl, But.refl _ _, hkn.val 19 52 (by kernel_rfl) rfl⟩
    | 21, _ =>
      obtain rfl := Option.some.inj ho
      refine ⟨Know.free rfl, op_move _ _ rfl rfl ?_⟩
      exact ⟨_, rfl, But.refl _ _, hkn.val 20 53 (by kernel_rfl) rfl⟩
    | 22, _ =>
      obtain rfl := Option.some.inj ho
      refine ⟨hkn.guard 21 54 true rfl (by kernel_rfl) rfl (fun _ h => h), op_move _ _ rfl (hkn.was 5 (by kernel_rfl)) ?_⟩
      exact ⟨_, rfl, But.refl _ _, rfl⟩
    | 23, _ =>
      obtain rfl := Option.some.inj ho
      have e := hkn.val 22 55 (by kernel_rfl) rfl
      refine ⟨hkn.guard 21 54 true rfl (by kernel_rfl) rfl (fun _ h => h), op_call 18 [_] _ #[.pointer (some ⟨w.heap.size, 0, none⟩)] rfl (by show #[a.eval (.tmp 55)] = _; rw [e]) (callLen _ _) ((HLE.out wx hbut).mono ?_)⟩
      rintro e u ⟨rfl, rfl⟩
      exact ⟨_, rfl, _, rfl, But.refl _ _, rfl⟩
    | 24, _ =>
      obtain rfl := Option.some.inj ho
      refine ⟨hkn.guard 21 54 true rfl (by kernel_rfl) rfl (fun _ h => h), op_move _ _ rfl (hkn.was 0 (by kernel_rfl)) ?_⟩
      exact ⟨_, rfl, But.refl _ _, rfl⟩
    | 25, _ =>
      obtain rfl := Option.some.inj ho
      refine ⟨hkn.guard 21 54 true rfl (by kernel_rfl) rfl (fun _ h => h), op_len _ _ _ _ _ rfl (hkn.val 24 57 (by kernel_rfl) rfl) (len22 _ _ _ _ _) ?_⟩
      exact ⟨_, rfl, But.refl _ _, rfl⟩
    | 26, _ =>
      obtain rfl := Option.some.inj ho
      refine ⟨hkn.guard 21 54 true rfl (by kernel_rfl) rfl (fun _ h => h), op_move _ _ rfl (hkn.was 1 (by kernel_rfl)) ?_⟩
      exact ⟨_, rfl, But.refl _ _, rfl⟩
    | 27, _ =>
      obtain rfl := Option.some.inj ho
      refine ⟨hkn.guard 21 54 true rfl (by kernel_rfl) rfl (fun _ h => h), op_len _ _ _ _ _ rfl (hkn.val 26 59 (by kernel_rfl) rfl) (len22 _ _ _ _ _) ?_⟩
      exact ⟨_, rfl, But.refl _ _, rfl⟩
    | 28, _ =>
      obtain rfl := Option.some.inj ho
      refine ⟨hkn.guard 21 54 true rfl (by kernel_rfl) rfl (fun _ h => h), op_bin .add _ _ _ _ _ _ _ rfl (hkn.val 25 58 (by kernel_rfl) rfl) (hkn.val 27 60 (by kernel_rfl) rfl) rfl (HADD.out wx) ?_⟩
      exact ⟨_, rfl, But.refl _ _, rfl⟩
    | 29, _ =>
      obtain rfl := Option.some.inj ho
      refine ⟨hkn.guard 21 54 true rfl (by kernel_rfl) rfl (fun _ h => h), op_bin .eql _ _ _ _ _ _ _ rfl (hkn.val 23 56 (by kernel_rfl) rfl) (hkn.val 28 61 (by kernel_rfl) rfl) rfl (HEQI.out wx) ?_⟩
      exact ⟨_, rfl, But.refl _ _, rfl⟩
    | 30, _ =>
      obtain rfl := Option.some.inj ho
      refine ⟨Know.free rfl, op_pick _ _ _ _ rfl (hkn.val 21 54 (by kernel_rfl) rfl) rfl ?_⟩
      exact ⟨_, rfl, But.refl _ _, hkn.val 29 62 (by kernel_rfl) rfl⟩
    | 31, _ =>
      obtain rfl := Option.some.inj ho
      refine ⟨Know.free rfl, op_move _ _ rfl rfl ?_⟩
      exact ⟨_, rfl, But.refl _ _, hkn.val 30 63 (by kernel_rfl) rfl⟩
    | 32, _ =>
      obtain rfl := Option.some.inj ho
      refine ⟨hkn.guard 31 64 true rfl (by kernel_rfl) rfl (fun _ h => h), op_call 8 [] _ #[] rfl rfl (callAwake _ _) ((HAW8.out wx hbut).mono ?_)⟩
      rintro e u ⟨rfl, hu⟩
      exact ⟨_, rfl, _, rfl, hu, rfl⟩
    | 33, _ =>
      obtain rfl := Option.some.inj ho
      refine ⟨Know.free rfl, op_pick _ _ _ _ rfl (hkn.val 31 64 (by kernel_rfl) rfl) rfl ?_⟩
      exact ⟨_, rfl, But.refl _ _, hkn.val 32 65 (by kernel_rfl) rfl⟩
    | 34, _ =>
      obtain rfl := Option.some.inj ho
      refine ⟨Know.free rfl, op_assign _ _ rfl rfl ?_⟩
      exact ⟨_, rfl, But.refl _ _, hkn.val 33 66 (by kernel_rfl) rfl⟩
    | k + 35, h => exact absurd h (by simp)
  · intro a wx hbut hdef hdone hold
    obtain ⟨v4, hv4, hr4⟩ := hdone 34 4 rfl
    have e4 : a.tmps.getD 4 undef = .bool true := by rw [Array.getD_eq_getD_getElem?, hv4]; exact hr4
    go_wp2
    refine bodyPost_ret (results_tmp rfl a.tmps Tryd.prog wx) (hdef.trans rfl) ?_
    exact ⟨by rw [e4], (HB8.out.trans hbut).below (Nat.le_refl _) (fun _ _ h => h)⟩
end Go.Proofs.YtmilmaljahjgeaaDoor
