/- A row of tasks that take turns: as a list, and in memory; New, fault, Pass, right. -/
import Derived.Test.YtidblaepklgkcaaRealCl
import Derived.Test.YtidblaepklgkcaaRealFold
import Derived.Test.YtidblaepklgkcaaOwnRow
import Derived.Test.YtidblaepklgkcaaNumsMore
import Derived.Test.YtidblaepklgkcaaPast
import Derived.Test.YtidblaepklgkcaaIntKit
import Derived.Laws.FloatArith
import Derived.Deep.Cut
namespace Go.Proofs.Ytidblaepklgkcaa
open Go.RowKit

/-- A task: its weight, its pass, is it awake? -/
structure Sh where
  w : Nat
  p : Nat
  a : Bool
def shc (t : Sh) : List Value := [.float .f64 t.w, .float .f64 t.p, .bool t.a]
theorem shc_len (t : Sh) : (shc t).length = 3 := rfl
structure Fok (T : List Sh) : Prop where
  n1 : 1 ≤ T.length
  n8 : T.length ≤ 8
  ok : ∀ t ∈ T, (4562146422526312448 ≤ t.w ∧ t.w ≤ 4652218415073722368) ∧ t.p ≤ 9218868437227405312
/-- The row at g, its tasks at gt. -/
structure Fb (w : World) (g gt : Nat) (T : List Sh) : Prop where
  row : Blk w g 69 [.slice (some ⟨gt, 0, none⟩) T.length T.length]
  tsk : Blk w gt 71 (T.flatMap shc)
  ne : g ≠ gt
structure Fr (w : World) (g gt : Nat) (T : List Sh) : Prop where
  b : Fb w g gt T
  ok : Fok T

section
variable {w w' : World} {g gt : Nat} {T : List Sh} {R : Nat → Prop} {t t' : Sh} {i c : Nat} {u : Value}
theorem Fb.but (h : Fb w g gt T) (k : But R w w') (h1 : ¬ R g) (h2 : ¬ R gt) : Fb w' g gt T := ⟨h.row.but k h1, h.tsk.but k h2, h.ne⟩
theorem Fr.but (h : Fr w g gt T) (k : But R w w') (h1 : ¬ R g) (h2 : ¬ R gt) : Fr w' g gt T := ⟨h.b.but k h1 h2, h.ok⟩
theorem Fr.grow (h : Fr w g gt T) (k : Grow w w') : Fr w' g gt T := h.but k (fun h => h) (fun h => h)
theorem flat_atS {α : Type} {f : α → List Value} {s : Nat} : ∀ (L : List α) (i c : Nat) (x : α) (u : Value), (∀ x ∈ L, (f x).length = s) → L[i]? = some x → (f x)[c]? = some u → (L.flatMap f)[i * s + c]? = some u
  | [], i, c, x, u, _, h, _ => by simp at h
  | y :: L, 0, c, x, u, hs, h, hc => by
    have e : y = x := by simpa using h
    subst e
    rw [List.flatMap_cons, Nat.zero_mul, Nat.zero_add, List.getElem?_append_left (List.getElem?_eq_some_iff.1 hc).1]
    exact hc
  | y :: L, i + 1, c, x, u, hs, h, hc => by
    have hy := hs y List.mem_cons_self
    rw [List.flatMap_cons, List.getElem?_append_right (by rw [hy, Nat.succ_mul]; omega), hy, show (i + 1) * s + c - s = i * s + c by rw [Nat.succ_mul]; omega]
    exact flat_atS L i c x u (fun z hz => hs z (List.mem_cons_of_mem _ hz)) (by simpa using h) hc
theorem Fb.cell (h : Fb w g gt T) (hi : T[i]? = some t) (hc : (shc t)[c]? = some u) : w.cell? ⟨gt, i * 3 + c, none⟩ = some u := by
  rw [h.tsk.cell]
  exact flat_atS T i c t u (fun x _ => shc_len x) hi hc
theorem Fb.set (h : Fb w g gt T) (hi : T[i]? = some t) (hc : c < 3) (ht : shc t' = (shc t).set c u) : Fb (w.setCell ⟨gt, i * 3 + c, none⟩ u) g gt (T.set i t') := by
  have k := But.set1 w gt (i * 3 + c) u
  refine ⟨?_, ?_, h.ne⟩
  · rw [List.length_set]; exact h.row.but k h.ne
  · rw [← flat_setc T i c t (fun x _ => shc_len x) hi hc ht]
    exact h.tsk.set _ _
theorem Fok.set (h : Fok T) (i : Nat) (ht : (4562146422526312448 ≤ t'.w ∧ t'.w ≤ 4652218415073722368) ∧ t'.p ≤ 9218868437227405312) : Fok (T.set i t') := ⟨by rw [List.length_set]; exact h.n1, by rw [List.length_set]; exact h.n8, fun x hx => by
  rcases List.mem_or_eq_of_mem_set hx with h1 | h1
  · exact h.ok x h1
  · rw [h1]; exact ht⟩
end
theorem zSh (w : World) : (zeroValue 71).run Try.prog w = .ok (.agg #[.float .f64 0, .float .f64 0, .bool false]) w := by kernel_rfl
theorem iFl : (Try.prog.info? 31).map (·.size) = some 1 := by kernel_rfl
theorem iBo : (Try.prog.info? 4).map (·.size) = some 1 := by kernel_rfl
theorem iSh : (Try.prog.info? 71).map (·.size) = some 3 := by kernel_rfl
theorem make_sh (w : World) (n : Nat) (h1 : 1 ≤ n) (h8 : n ≤ 8) : (Instr.makeSlice 67 (.int .i64 (n : Int)) (.int .i64 (n : Int))).run Try.prog w = .ok (.slice (some ⟨w.heap.size, 0, none⟩) n n) (w.alloc (.cells ((List.replicate n (⟨0, 0, false⟩ : Sh)).flatMap shc).toArray 71)) := by
  rcases (by omega : n = 1 ∨ n = 2 ∨ n = 3 ∨ n = 4 ∨ n = 5 ∨ n = 6 ∨ n = 7 ∨ n = 8) with rfl | rfl | rfl | rfl | rfl | rfl | rfl | rfl <;> kernel_rfl
theorem make_sh2 (w : World) (n : Nat) (h1 : 1 ≤ n) (h8 : n ≤ 8) : ∃ w1, (Instr.makeSlice 67 (.int .i64 (n : Int)) (.int .i64 (n : Int))).run Try.prog w = .ok (.slice (some ⟨w.heap.size, 0, none⟩) n n) w1 ∧ Grow w w1 ∧ Blk w1 w.heap.size 71 ((List.replicate n (⟨0, 0, false⟩ : Sh)).flatMap shc) := ⟨_, make_sh w n h1 h8, (But.refl _ _).alloc _, Blk.new rfl⟩
theorem bldRow (a : Option Addr) (n c : Nat) (w : World) : (Instr.build 69 #[(0, .slice a n c)]).run Try.prog w = .ok (.agg #[.slice a n c]) w := by kernel_rfl
theorem exec_makeS {w w' : World} {o : Oper} {ρ : Operand → Value} {t : TypeId} {x y : Operand} {u v r : Value} (ho : o.op = .makeSlice t x y) (hx : ρ x = u) (hy : ρ y = v) (h : (Instr.makeSlice t u v).run Try.prog w = .ok r w') : (execOp ρ o).run Try.prog w = .ok (.value r) w' := by
  unfold execOp
  simp [ho, hx, hy, h, Result.andThen]
/-- Some of the new tasks have their weight. -/
def half (n i : Nat) : List Sh := List.replicate i ⟨4607182418800017408, 0, false⟩ ++ List.replicate (n - i) ⟨0, 0, false⟩
def fresh (n : Nat) : List Sh := List.replicate n ⟨4607182418800017408, 0, false⟩
theorem half_all (n : Nat) : half n n = fresh n := by unfold half fresh; rw [Nat.sub_self, List.replicate_zero, List.append_nil]
theorem half_zero (n : Nat) : half n 0 = List.replicate n ⟨0, 0, false⟩ := by unfold half; rw [Nat.sub_zero, List.replicate_zero, List.nil_append]
theorem half_len {n i : Nat} (h : i ≤ n) : (half n i).length = n := by unfold half; rw [List.length_append, List.length_replicate, List.length_replicate]; omega
theorem half_at {n i : Nat} (h : i < n) : (half n i)[i]? = some ⟨0, 0, false⟩ := by
  unfold half
  rw [List.getElem?_append_right (by rw [List.length_replicate]; exact Nat.le_refl _), List.length_replicate, Nat.sub_self, List.getElem?_replicate, if_pos (by omega)]
theorem half_set {n i : Nat} (h : i < n) : (half n i).set i ⟨4607182418800017408, 0, false⟩ = half n (i + 1) := by
  unfold half
  rw [List.set_append_right _ _ (by rw [List.length_replicate]; exact Nat.le_refl _), List.length_replicate, Nat.sub_self, show n - i = (n - (i + 1)) + 1 by omega, List.replicate_succ, List.set_cons_zero, List.replicate_succ', List.append_assoc]
  rfl
theorem fresh_ok {n : Nat} (h1 : 1 ≤ n) (h8 : n ≤ 8) : Fok (fresh n) := ⟨by unfold fresh; rw [List.length_replicate]; exact h1, by unfold fresh; rw [List.length_replicate]; exact h8, fun t ht => by rw [(List.mem_replicate.1 ht).2]; decide⟩
def NewTo (w : World) (n : Nat) (e : Ending) (w' : World) : Prop := ∃ g gt, e = .returned (.tuple #[ptr g, .int .i64 0]) ∧ Fr w' g gt (fresh n) ∧ Grow w w' ∧ w.heap.size ≤ g ∧ w.heap.size ≤ gt
set_option maxRecDepth 100000 in
set_option maxHeartbeats 1000000 in
theorem new_any (w : World) (n : Nat) (h1 : 1 ≤ n) (h8 : n ≤ 8) : Calls Try.prog 10 #[.int .i64 (n : Int)] w (NewTo w n) := by
  have t1 : ¬ (n : Int) < 1 := by omega
  have t8 : ¬ (8 : Int) < (n : Int) := by omega
  obtain ⟨gt, hgt⟩ : ∃ gt, gt = w.heap.size := ⟨_, rfl⟩
  obtain ⟨w1, hmk, k1, b1⟩ := make_sh2 w n h1 h8
  rw [← hgt] at hmk b1
  have HMK := Hid.mk' hmk
  clear hmk
  obtain ⟨g, hg⟩ : ∃ g, g = w1.heap.size := ⟨_, rfl⟩
  have k2 : Grow w1 (w1.alloc (.cells #[.slice (some ⟨gt, 0, none⟩) n n] 69)) := (But.refl _ _).alloc _
  have b2 : Blk (w1.alloc (.cells #[.slice (some ⟨gt, 0, none⟩) n n] 69)) g 69 [.slice (some ⟨gt, 0, none⟩) n n] := Blk.new (L := [.slice (some ⟨gt, 0, none⟩) n n]) hg.symm
  have hlt := b1.lt
  have HF0 : Hid (Fb (w1.alloc (.cells #[.slice (some ⟨gt, 0, none⟩) n n] 69)) g gt (half n 0)) := ⟨by rw [half_len (Nat.zero_le _)]; exact b2, by rw [half_zero]; exact b1.but k2 (fun h => h), by omega⟩
  have HG0 : Hid (Grow w (w1.alloc (.cells #[.slice (some ⟨gt, 0, none⟩) n n] 69))) := k1.trans k2
  have HGS : Hid (w.heap.size ≤ g ∧ w.heap.size ≤ gt) := Hid.mk' (by have := k1.size; omega)
  have HG := Hid.mk' hg
  have H1 := Hid.mk' h1
  have H8 := Hid.mk' h8
  have hn8 : (n : Int) ≤ 8 := by omega
  clear k1 b1 k2 b2 hlt hg hgt h1 h8
  go_enter Try.func10, Try.ntmps10
  go_upto_region 4 with (first
    | (refine wpList_runH rfl (exec_makeS (t := 67) (u := .int .i64 (n : Int)) (v := .int .i64 (n : Int)) (r := .slice (some ⟨gt, 0, none⟩) n n) (w' := w1) rfl rfl rfl HMK.out) ?_)
    | fail)
  rw [← HG.out]
  have c0 : (w1.alloc (.cells #[.slice (some ⟨gt, 0, none⟩) n n] 69)).cell? ⟨g, 0, none⟩ = some (.slice (some ⟨gt, 0, none⟩) n n) := by
    have := HF0.out.row.cell 0
    rw [half_len (Nat.zero_le _)] at this
    exact this
  generalize w1.alloc (.cells #[.slice (some ⟨gt, 0, none⟩) n n] 69) = w2 at *
  go_wp2
  clear c0
  go_loopw [21] (fun iv wr => ∃ i : Nat, i ≤ n ∧ iv = .int .i64 i ∧ Fb wr g gt (half n i) ∧ Grow w wr) (fun iv _ => n - (intOf iv).toNat)
  case atStart => exact ⟨0, Nat.zero_le _, rfl, HF0.out, HG0.out⟩
  case round =>
    clear HF0 HG0
    obtain ⟨i, hin, rfl, hf, hgw⟩ := hrel
    by_cases hlt : i < n
    · have hlti : (i : Int) < (n : Int) := by omega
      have c0 : wr.cell? ⟨g, 0, none⟩ = some (.slice (some ⟨gt, 0, none⟩) n n) := by
        have := hf.row.cell 0
        rw [half_len (by omega)] at this
        exact this
      have HB := Hid.mk' hf.tsk
      have HLN : Hid (i * 3 < ((half n i).flatMap shc).length) := Hid.mk' (by rw [flat_len' _ (fun x _ => shc_len x), half_len (by omega)]; omega)
      have hs := hf.set (half_at hlt) (c := 0) (u := .float .f64 4607182418800017408) (t' := ⟨4607182418800017408, 0, false⟩) (by decide) rfl
      rw [half_set hlt] at hs
      have HS := Hid.mk' hs
      have HGW : Hid (Grow w (wr.setCell ⟨gt, i * 3, none⟩ (.float .f64 4607182418800017408))) := Hid.mk' (hgw.then (But.set1 wr gt (i * 3) _) (fun j hj e => by have := HGS.out; omega))
      clear hs hgw hf
      go_wp2_with (first
        | (refine wpList_skipH rfl (exec_store (g := gt) (i := i * 3) (v := .float .f64 4607182418800017408) iFl rfl rfl rfl rfl HB.out HLN.out) ?_)
        | fail)
      exact ⟨⟨i + 1, by omega, by go_num, HS.out, HGW.out⟩, by simp [intOf]; omega⟩
    · have hie : i = n := by omega
      subst hie
      have HFR : Hid (Fr wr g gt (fresh i)) := ⟨by rw [half_all] at hf; exact hf, fresh_ok H1.out H8.out⟩
      have HGW := Hid.mk' hgw
      clear hf hgw
      go_wp2
      go_ret2
      exact ⟨g, gt, rfl, HFR.out, HGW.out, HGS.out.1, HGS.out.2⟩
set_option maxRecDepth 100000 in
theorem new_not (w : World) (n : Int) (h : n < 1 ∨ 8 < n) : Calls Try.prog 10 #[.int .i64 n] w fun e w' => e = .returned (.tuple #[.pointer none, .int .i64 1]) ∧ w' = w := by
  rcases (by omega : n < 1 ∨ (¬ n < 1 ∧ 8 < n)) with h1 | ⟨h1, h2⟩
  all_goals
    go_enter Try.func10, Try.ntmps10
    go_wp2
    go_ret2
    exact ⟨rfl, rfl⟩
/-- Is there such a task? -/
def inR (T : List Sh) (i : Int) : Bool := decide (0 ≤ i ∧ i < (T.length : Int))
section
variable {w : World} {g gt : Nat} {T : List Sh} {i : Int}
set_option maxRecDepth 100000 in
theorem fault_any (h : Fr w g gt T) : Calls Try.prog 47 #[ptr g, .int .i64 i] w fun e w' => e = .returned (.int .i64 (if inR T i then 0 else 1)) ∧ w' = w := by
  obtain ⟨n, hn⟩ : ∃ n, n = T.length := ⟨_, rfl⟩
  have c0 : w.cell? ⟨g, 0, none⟩ = some (.slice (some ⟨gt, 0, none⟩) n n) := by rw [hn]; exact h.b.row.cell 0
  have hr : inR T i = decide (0 ≤ i ∧ i < (n : Int)) := by unfold inR; rw [hn]
  have h8 : (n : Int) ≤ 8 := by have := h.ok.n8; omega
  rw [hr]
  clear h hn hr
  rcases (by omega : i < 0 ∨ (¬ i < 0 ∧ (n : Int) ≤ i) ∨ (¬ i < 0 ∧ ¬ (n : Int) ≤ i)) with h1 | ⟨h1, h2⟩ | ⟨h1, h2⟩
  · rw [decide_eq_false (by omega)]
    go_enter Try.func47, Try.ntmps47
    go_wp2
    go_ret
    exact ⟨rfl, rfl⟩
  · rw [decide_eq_false (by omega)]
    go_enter Try.func47, Try.ntmps47
    go_wp2
    go_ret
    exact ⟨rfl, rfl⟩
  · rw [decide_eq_true (by omega)]
    go_enter Try.func47, Try.ntmps47
    go_wp2
    go_ret
    exact ⟨rfl, rfl⟩
theorem fault_nil (w : World) (i : Int) : Calls Try.prog 47 #[.pointer none, .int .i64 i] w fun e w' => e = .returned (.int .i64 5) ∧ w' = w := by
  go_enter Try.func47, Try.ntmps47
  go_wp2
  go_ret
  exact ⟨rfl, rfl⟩
/-- A task's pass. -/
def pas (T : List Sh) (i : Int) : Nat := if inR T i then ((T[i.toNat]?).map (·.p)).getD 0 else 0
theorem pas_at {k : Nat} {t : Sh} (h : T[k]? = some t) : pas T (k : Int) = t.p := by
  have hk := (List.getElem?_eq_some_iff.1 h).1
  unfold pas inR
  rw [decide_eq_true (by omega), if_pos rfl, Int.toNat_natCast, h]
  rfl
set_option maxRecDepth 100000 in
theorem pass_any (h : Fr w g gt T) : Calls Try.prog 56 #[ptr g, .int .i64 i] w fun e w' => e = .returned (.float .f64 (pas T i)) ∧ w' = w := by
  have HFA := Hid.mk' (fault_any (i := i) h)
  obtain ⟨n, hn⟩ : ∃ n, n = T.length := ⟨_, rfl⟩
  have c0 : w.cell? ⟨g, 0, none⟩ = some (.slice (some ⟨gt, 0, none⟩) n n) := by rw [hn]; exact h.b.row.cell 0
  have h8 : (n : Int) ≤ 8 := by have := h.ok.n8; omega
  cases hr : inR T i with
  | false =>
    have hp : pas T i = 0 := by unfold pas; rw [hr]; rfl
    rw [hp]
    rw [hr] at HFA
    clear h hn hr
    go_enter Try.func56, Try.ntmps56
    go_wp2_with fail
    refine Calls.mono HFA.out ?_
    rintro e w' ⟨rfl, hw⟩
    have h2 := hw.symm
    subst h2
    clear hw
    go_wp2
    go_ret
    exact ⟨rfl, rfl⟩
  | true =>
    have hri : 0 ≤ i ∧ i < (T.length : Int) := of_decide_eq_true hr
    obtain ⟨k, rfl⟩ : ∃ k : Nat, i = (k : Int) := ⟨i.toNat, by omega⟩
    obtain ⟨t, ht⟩ : ∃ t, T[k]? = some t := ⟨_, List.getElem?_eq_getElem (by omega)⟩
    rw [pas_at ht]
    have d1 : w.cell? ⟨gt, k * 3 + 1, none⟩ = some (.float .f64 t.p) := h.b.cell ht rfl
    have hkn : (k : Int) < (n : Int) := by omega
    rw [hr] at HFA
    clear h hn hr hri ht
    go_enter Try.func56, Try.ntmps56
    go_wp2_with fail
    refine Calls.mono HFA.out ?_
    rintro e w' ⟨rfl, hw⟩
    have h2 := hw.symm
    subst h2
    clear hw
    go_wp2
    go_ret
    exact ⟨rfl, rfl⟩
theorem pass_nil (w : World) (i : Int) : Calls Try.prog 56 #[.pointer none, .int .i64 i] w fun e w' => e = .returned (.float .f64 0) ∧ w' = w := by
  have HFA := Hid.mk' (fault_nil w i)
  go_enter Try.func56, Try.ntmps56
  go_wp2_with fail
  refine Calls.mono HFA.out ?_
  rintro e w' ⟨rfl, hw⟩
  have h2 := hw.symm
  subst h2
  clear hw
  go_wp2
  go_ret
  exact ⟨rfl, rfl⟩
/-- A weight brought right. -/
def rw' (x : Nat) : Nat := if nn x then 4607182418800017408 else cl x 4562146422526312448 4652218415073722368
theorem right_any (x : Nat) (w : World) (hx : x < 18446744073709551616) : Calls Try.prog 48 #[.float .f64 x] w fun e w' => e = .returned (.float .f64 (rw' x)) ∧ w' = w := by
  have HN := Hid.mk' (isnan_any x w hx)
  have HC := Hid.mk' (clamp_any x 4562146422526312448 4652218415073722368 w hx (by decide) (by decide))
  unfold rw'
  cases hn : nn x with
  | true =>
    rw [hn] at HN
    go_enter Try.func48, Try.ntmps48
    go_wp2_with fail
    refine Calls.mono HN.out ?_
    rintro e w' ⟨rfl, hw⟩
    have h2 := hw.symm
    subst h2
    clear hw
    go_wp2
    go_ret
    exact ⟨rfl, rfl⟩
  | false =>
    rw [hn] at HN
    rw [if_neg (by decide)]
    generalize cl x 4562146422526312448 4652218415073722368 = y at *
    go_enter Try.func48, Try.ntmps48
    go_wp2_with fail
    refine Calls.mono HN.out ?_
    rintro e w' ⟨rfl, hw⟩
    have h2 := hw.symm
    subst h2
    clear hw
    go_wp2_with fail
    refine Calls.mono HC.out ?_
    rintro e w' ⟨rfl, hw⟩
    have h2 := hw.symm
    subst h2
    clear hw
    go_wp2
    go_ret
    exact ⟨rfl, rfl⟩
theorem rk_pos {b : Nat} (h : b ≤ 9218868437227405312) : rk b = (b : Int) := by
  unfold rk nn ng mg
  have e : b % 9223372036854775808 = b := Nat.mod_eq_of_lt (by omega)
  rw [e, decide_eq_false (by omega), decide_eq_false (by omega)]
  rfl
theorem ls_pos {a b : Nat} (ha : a ≤ 9218868437227405312) (hb : b ≤ 9218868437227405312) : ls a b = decide (a < b) := by
  unfold ls
  rw [rk_pos ha, rk_pos hb]
  congr 1
  exact propext (by omega)
theorem cl_pos {x l h : Nat} (hx : x ≤ 9218868437227405312) (hl : l ≤ 9218868437227405312) (hh : h ≤ 9218868437227405312) (hlh : l ≤ h) : l ≤ cl x l h ∧ cl x l h ≤ h := by
  unfold cl
  rw [ls_pos hx hl, ls_pos hh hl, ls_pos hh hx]
  by_cases h1 : x < l
  · rw [decide_eq_true h1, Bool.true_or, if_pos rfl]; omega
  · rw [decide_eq_false h1, decide_eq_false (show ¬ h < l by omega), Bool.or_false, if_neg (by decide)]
    by_cases h2 : h < x
    · rw [decide_eq_true h2, if_pos rfl]; omega
    · rw [decide_eq_false h2, if_neg (by decide)]; omega
theorem rw_ok {x : Nat} (hx : x < 18446744073709551616) : 4562146422526312448 ≤ rw' x ∧ rw' x ≤ 4652218415073722368 := by
  unfold rw'
  cases hn : nn x with
  | true => rw [if_pos rfl]; exact ⟨by decide, by decide⟩
  | false =>
    rw [if_neg (by decide)]
    rcases cl_cases x 4562146422526312448 4652218415073722368 with e | e | e
    · rw [e]; exact ⟨by decide, by decide⟩
    · rw [e]; exact ⟨by decide, by decide⟩
    · -- x itself: it isn't ahead of the least, nor behind the greatest
      have h1 : (ls x 4562146422526312448 || ls 4652218415073722368 4562146422526312448) = false := by
        cases h : (ls x 4562146422526312448 || ls 4652218415073722368 4562146422526312448) with
        | false => rfl
        | true => 
          have := cl_low x 4562146422526312448 4652218415073722368 h
          rw [e] at this
          rw [this] at h
          exact absurd h (by decide)
      have h2 : ls 4652218415073722368 x = false := by
        cases h : ls 4652218415073722368 x with
        | false => rfl
        | true =>
          have := cl_high x 4562146422526312448 4652218415073722368 h1 h
          rw [e] at this
          rw [this] at h
          exact absurd h (by decide)
      rw [e]
      rw [Bool.or_eq_false_iff] at h1
      have h3 : ¬ rk x < rk 4562146422526312448 := of_decide_eq_false h1.1
      have h4 : ¬ rk 4652218415073722368 < rk x := of_decide_eq_false h2
      rw [rk_pos (show 4562146422526312448 ≤ 9218868437227405312 by decide)] at h3
      rw [rk_pos (show 4652218415073722368 ≤ 9218868437227405312 by decide)] at h4
      unfold rk at h3 h4
      rw [hn] at h3 h4
      unfold ng mg at h3 h4
      simp only [Bool.false_eq_true, if_false] at h3 h4
      by_cases hg : 9223372036854775808 ≤ x
      · rw [decide_eq_true hg] at h3
        simp only [if_true] at h3
        omega
      · rw [decide_eq_false hg] at h3 h4
        simp only [Bool.false_eq_true, if_false] at h3 h4
        omega
end
end Go.Proofs.Ytidblaepklgkcaa
