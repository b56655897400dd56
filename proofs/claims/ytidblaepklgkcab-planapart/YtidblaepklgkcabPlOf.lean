/- plan: Of. -/
import Derived.Test.YtidblaepklgkcabPlLeaf
import Derived.Deep.Cut
namespace Go.Proofs.Ytidblaepklgkcab
open Go.RowKit

theorem wpList_store1 {w : World} {ops : Array Oper} {rest : List Oper} {o : Oper} {a : Act} {Q : Exit → Act → World → Prop} (hgd : o.guard = none) {t T : TypeId} (hsz : (Try.prog.info? t).map (·.size) = some 1) {x y : Operand} (ho : o.op = .store t x y)
    {g i : Nat} {v : Value} {L : List Value} (hx : a.eval x = .pointer (some ⟨g, i, none⟩)) (hy : a.eval y = v) (hv : v.oneCell' = true) (hb : Blk w g T L) (hi : i < L.length)
    (h : ∀ w', Blk w' g T (L.set i v) → But (· = g) w w' → wpList Try.prog ops Q rest (a.put o.dst undef) w') : wpList Try.prog ops Q (o :: rest) a w :=
  wpList_skipH hgd (exec_store hsz ho hx hy hv hb hi) (h _ (hb.set i v) (But.set1 w g i v))
theorem results_plan_tmp {P : Program} {fn : Func} {p u : Tmp} {ty : TypeId} (h : fn.results = #[.cell p ty, .tmp u]) (tmps : Array Value) (w : World) (g : Nat) (t : TypeId) (cs : Array Value) (d : TypeDesc) (v : Value)
    (hp : tmps.getD p undef = .pointer (some ⟨g, 0, none⟩)) (hg : w.heap[g]? = some (.cells cs t (0, 0))) (hu : P.underlying ty = some d) (hd : (match d with | .struct _ | .array _ _ => true | _ => false) = true) (hi : (P.info? ty).map (·.size) = some cs.size) (hv : tmps.getD u undef = v) :
    (results fn tmps).run P w = .ok (.tuple #[.agg cs, v]) w := by
  have hp' : tmps[p]?.getD undef = .pointer (some ⟨g, 0, none⟩) := by simpa using hp
  have hv' : tmps[u]?.getD undef = v := by simpa using hv
  simp [results, h, hp', hv', asAddr, run_loadVar_row w g t ty cs (0, 0) d hg hu hd hi]
theorem iIn : (Try.prog.info? 3).map (·.size) = some 1 := by kernel_rfl
theorem iSl : (Try.prog.info? 22).map (·.size) = some 1 := by kernel_rfl
def Pn.zero : Pn := ⟨0, 0, 0, [], 0, 0, 0, 0, 0, 0⟩
abbrev noS : Value := .slice none 0 0
theorem zPl (w : World) : (zeroValue 24).run Try.prog w = .ok (.agg (pcells Pn.zero noS).toArray) w := by kernel_rfl
theorem bldPl (a b : Int) (w : World) : (Instr.build 24 #[(0, .int .i64 a), (1, .int .i64 b)]).run Try.prog w = .ok (.agg (pcells ⟨a, b, 0, [], 0, 0, 0, 0, 0, 0⟩ noS).toArray) w := by kernel_rfl
theorem pcells_one (p : Pn) {v : Value} (hv : v.oneCell' = true) : ∀ u ∈ pcells p v, u.oneCell' = true := by
  intro u hu
  unfold pcells at hu
  simp only [List.mem_cons, List.not_mem_nil, or_false] at hu
  rcases hu with rfl | rfl | rfl | rfl | rfl | rfl | rfl | rfl | rfl | rfl <;> first | rfl | exact hv
def OfTo (w : World) (n b : Nat) (e : Ending) (w' : World) : Prop := ∃ v, e = .returned (.tuple #[pval (plan n b) v, .int .i64 0]) ∧ Own w w' v (plan n b).levels ∧ Grow w w'
set_option maxRecDepth 100000 in
theorem planof_not (w : World) (x y : Int) (h : ¬ (1 ≤ x ∧ x ≤ 4096 ∧ 1 ≤ y ∧ y ≤ 256)) : Calls Try.prog 5 #[.int .i64 x, .int .i64 y] w fun e w' => e = .returned (.tuple #[pval Pn.zero noS, .int .i64 1]) ∧ Grow w w' := by
  obtain ⟨g0, hg0⟩ : ∃ g, g = w.heap.size := ⟨_, rfl⟩
  obtain ⟨W0, hW0⟩ : ∃ W0, W0 = w.alloc (.cells (pcells Pn.zero noS).toArray 24) := ⟨_, rfl⟩
  have hT0 : Grow w W0 := by rw [hW0]; exact (But.refl _ w).alloc _
  have hB0 : Blk W0 g0 24 (pcells Pn.zero noS) := by rw [hW0]; exact Blk.new hg0.symm
  have HT0 := Hid.mk' hT0
  have HB0 := Hid.mk' hB0
  have HG := Hid.mk' hg0
  have HGE : Hid (w.heap.size ≤ g0) := Hid.mk' (by omega)
  have HW := Hid.mk' hW0
  clear hg0 hW0 hT0 hB0
  rcases (by omega : x < 1 ∨ (¬ x < 1 ∧ 4096 < x) ∨ (¬ x < 1 ∧ ¬ 4096 < x ∧ y < 1) ∨ (¬ x < 1 ∧ ¬ 4096 < x ∧ ¬ y < 1 ∧ 256 < y)) with h1 | ⟨h1, h2⟩ | ⟨h1, h2, h3⟩ | ⟨h1, h2, h3, h4⟩
  all_goals
    clear h
    go_enter Try.func5, Try.ntmps5
    go_upto_region 1 with (first
      | (refine wpList_runH rfl (exec_allocF rfl (zPl _)) ?_)
      | fail)
    rw [← HW.out, ← HG.out]
    clear HW HG
    go_upto_region 2 with fail
    go_wp2_with (first
      | (refine wpList_store_at rfl _ _ _ rfl g0 0 (pcells Pn.zero noS) rfl rfl 24 [] (pcells Pn.zero noS) [] (by simpa using HB0.out) rfl rfl iPl (pcells_one _ rfl) ?_; intro w3 hb3 hbut3; rw [List.nil_append, List.append_nil] at hb3)
      | fail)
    refine bodyPost_ret (results_plan_tmp rfl _ _ g0 _ _ _ _ rfl hb3 Try.underlying24 rfl iPl rfl) rfl ⟨rfl, ?_⟩
    exact HT0.out.then hbut3 (fun b hb e => by have := HGE.out; omega)
theorem Own.sl {w w' : World} {v : Value} {ks : List Int} (h : Own w w' v ks) : ∃ a c, v = .slice a ks.length c := own_sl h.row
theorem Own.nums {w w' : World} {v : Value} {ks : List Int} (h : Own w w' v ks) (hk : ∀ x ∈ ks, -9223372036854775808 ≤ x ∧ x ≤ 9223372036854775807) (hl : ks.length ≤ 140737488355328) : Nums w' v ks := Nums.ofRow h.row hk hl
theorem Own.but {R : Nat → Prop} {w w' w2 : World} {v : Value} {ks : List Int} (h : Own w w' v ks) (k : But R w' w2) (hr : ∀ j, v.ownBlock = some j → ¬ R j) : Own w w2 v ks := ⟨ownsRow_but h.row k hr, h.new⟩
theorem row_cellP {w : World} {e : TypeId} {v : Value} {L : List Value} (h : w.ownsRow 0 e 1 v L.length L) (h0 : 0 < L.length) : ∃ b cap, v = .slice (some ⟨b, 0, none⟩) L.length cap ∧ ∀ i u, L[i]? = some u → w.cell? ⟨b, i, none⟩ = some u := by
  have hr : RowOf w (fun _ => True) e 1 v L.length L := ⟨h, fun _ _ => trivial⟩
  obtain ⟨ao, cap, e1, h1⟩ := hr.shape
  obtain ⟨b, e2, -, -, hc⟩ := h1 (by omega)
  exact ⟨b, cap, by rw [e1, e2], hc⟩
theorem lvs_le {c : Nat} (h1 : 1 ≤ c) (h2 : c ≤ 256) : (lvs c).length ≤ 3 ∧ 1 ≤ (lvs c).length ∧ (lvs c).sum ≤ 37 ∧ ∀ x ∈ lvs c, 1 ≤ x ∧ x ≤ 32 := by
  rcases lvs_shape h1 h2 with ⟨a, e⟩ | ⟨a, b, e⟩ | ⟨a, e⟩
  · rw [e]; simp
  · rw [e]
    refine ⟨by simp, by simp, ?_, fun x hx => ?_⟩
    · simp; unfold bg; omega
    · simp at hx; rcases hx with rfl | rfl
      · unfold bg; omega
      · omega
  · rw [e]
    refine ⟨by simp, by simp, ?_, fun x hx => ?_⟩
    · simp; unfold bg; omega
    · simp at hx; rcases hx with rfl | rfl | rfl
      · unfold bg; omega
      · unfold bg; omega
      · omega
theorem toI_i64 {l : List Nat} (h : ∀ x ∈ l, x ≤ 1000000) : ∀ x ∈ toI l, -9223372036854775808 ≤ x ∧ x ≤ 9223372036854775807 := fun x hx => by
  unfold toI at hx
  obtain ⟨y, hy, rfl⟩ := List.mem_map.1 hx
  have := h y hy
  omega
/-- What memory is amid Of. -/
structure OfM (w wr : World) (g0 g1 : Nat) (v : Value) (L : List Nat) (p : Pn) : Prop where
  one : Blk wr g1 24 (pcells p v)
  zero : Blk wr g0 24 (pcells Pn.zero noS)
  own : Own w wr v (toI L)
  grow : Grow w wr
  ne : g0 ≠ g1 ∧ w.heap.size ≤ g0 ∧ w.heap.size ≤ g1
  nv : ∀ k, v.ownBlock = some k → k ≠ g0 ∧ k ≠ g1
theorem OfM.put {w wr w' : World} {g0 g1 : Nat} {v : Value} {L : List Nat} {p p' : Pn} (h : OfM w wr g0 g1 v L p) (hb : Blk w' g1 24 (pcells p' v)) (k : But (· = g1) wr w') : OfM w w' g0 g1 v L p' :=
  ⟨hb, h.zero.but k h.ne.1, h.own.but k (fun j hj e => (h.nv j hj).2 e), h.grow.then k (fun j hj e => by have := h.ne.2.2; omega), h.ne, h.nv⟩
theorem OfM.last {w wr w' : World} {g0 g1 : Nat} {v : Value} {L : List Nat} {p : Pn} (h : OfM w wr g0 g1 v L p) (k : But (· = g0) wr w') : Own w w' v (toI L) ∧ Grow w w' :=
  ⟨h.own.but k (fun j hj e => (h.nv j hj).1 e), h.grow.then k (fun j hj e => by have := h.ne.2.1; omega)⟩
set_option maxRecDepth 100000 in
set_option maxHeartbeats 4000000 in
theorem planof_any (w : World) (n b : Nat) (h1 : 1 ≤ n) (h2 : n ≤ 4096) (h3 : 1 ≤ b) (h4 : b ≤ 256) : Calls Try.prog 5 #[.int .i64 (n : Int), .int .i64 (b : Int)] w (OfTo w n b) := by
  obtain ⟨g0, hg0⟩ : ∃ g, g = w.heap.size := ⟨_, rfl⟩
  obtain ⟨W0, hW0⟩ : ∃ W0, W0 = w.alloc (.cells (pcells Pn.zero noS).toArray 24) := ⟨_, rfl⟩
  have hT0 : Grow w W0 := by rw [hW0]; exact (But.refl _ w).alloc _
  have hB0 : Blk W0 g0 24 (pcells Pn.zero noS) := by rw [hW0]; exact Blk.new hg0.symm
  obtain ⟨g1, hg1⟩ : ∃ g, g = W0.heap.size := ⟨_, rfl⟩
  obtain ⟨W1, hW1⟩ : ∃ W1, W1 = W0.alloc (.cells (pcells Pn.zero noS).toArray 24) := ⟨_, rfl⟩
  have hT1 : Grow w W1 := by rw [hW1]; exact hT0.alloc _
  have hB1 : Blk W1 g1 24 (pcells Pn.zero noS) := by rw [hW1]; exact Blk.new hg1.symm
  have hB01 : Blk W1 g0 24 (pcells Pn.zero noS) := by rw [hW1]; exact hB0.but ((But.refl (fun _ => False) W0).alloc _) (fun h => h)
  have HNE : Hid (g0 ≠ g1 ∧ w.heap.size ≤ g0 ∧ w.heap.size ≤ g1) := by
    have := hB0.lt
    have := hT0.size
    exact ⟨by omega, by omega, by omega⟩
  have HT1 := Hid.mk' hT1
  have HB1 := Hid.mk' hB1
  have HB01 := Hid.mk' hB01
  have HG0 := Hid.mk' hg0
  have HG1 := Hid.mk' hg1
  have HW0 := Hid.mk' hW0
  have HW1 := Hid.mk' hW1
  obtain ⟨c, hc⟩ : ∃ c, c = bg n 16 := ⟨_, rfl⟩
  have hc1 : 1 ≤ c := by rw [hc]; unfold bg; omega
  have hc2 : c ≤ 256 := by rw [hc]; unfold bg; omega
  obtain ⟨L, hL⟩ : ∃ L, L = lvs c := ⟨_, rfl⟩
  have hLL := lvs_le hc1 hc2
  rw [← hL] at hLL
  obtain ⟨nd, hnd⟩ : ∃ nd, nd = L.sum := ⟨_, rfl⟩
  obtain ⟨q, hq⟩ : ∃ q : Nat, q = 12 + 4 * b := ⟨_, rfl⟩
  obtain ⟨hs, hhs⟩ : ∃ hs, hs = bg q 256 := ⟨_, rfl⟩
  have hsb : hs ≤ 5 := by rw [hhs]; unfold bg; omega
  obtain ⟨hd, hhd⟩ : ∃ hd, hd = n + c + nd := ⟨_, rfl⟩
  have HPL : Hid (plan n b = ⟨n, b, c, toI L, nd, hd, hs, (hd + hs : Nat), (hd + hs + b : Nat), (hd + hs + b + b : Nat)⟩) := by
    subst hhd hhs hq hnd hL hc
    rfl
  have HBG1 := Hid.mk' (fun w => begun_any w n 16 (by omega) (by decide) (by decide))
  have HBG2 := Hid.mk' (fun w => begun_any w q 256 (by omega) (by decide) (by decide))
  have HLV := Hid.mk' (fun w => levels_any w c hc1 hc2)
  rw [← hc] at HBG1
  rw [← hhs] at HBG2
  rw [← hL] at HLV
  have HLL := Hid.mk' hLL
  have HND := Hid.mk' hnd
  have en : (n : Int) ≤ 4096 := by omega
  have en1 : (1 : Int) ≤ (n : Int) := by omega
  have eb : (b : Int) ≤ 256 := by omega
  have eb1 : (1 : Int) ≤ (b : Int) := by omega
  have n1 : ¬ (n : Int) < 1 := by omega
  have n2 : ¬ (4096 : Int) < (n : Int) := by omega
  have b1 : ¬ (b : Int) < 1 := by omega
  have b2 : ¬ (256 : Int) < (b : Int) := by omega
  have ec : (c : Int) ≤ 256 := by omega
  have hds : hd ≤ 4389 := by have := hLL.2.2.1; omega
  have HQ : Hid ((12 : Int) + 4 * (b : Int) = (q : Int)) := Hid.mk' (by omega)
  have HSM : Hid ((n : Int) + (c : Int) + (nd : Int) = (hd : Int) ∧ (hd : Int) + (hs : Int) = ((hd + hs : Nat) : Int) ∧ ((hd + hs : Nat) : Int) + (b : Int) = ((hd + hs + b : Nat) : Int) ∧ ((hd + hs + b : Nat) : Int) + (b : Int) = ((hd + hs + b + b : Nat) : Int)) := ⟨by omega, by omega, by omega, by omega⟩
  have HBD : Hid ((nd : Int) ≤ 37 ∧ (hd : Int) ≤ 4389 ∧ (hs : Int) ≤ 5) := ⟨by have := hLL.2.2.1; omega, by omega, by omega⟩
  clear h1 h2 h3 h4 hg0 hg1 hW0 hW1 hT0 hT1 hB0 hB1 hB01 hc hc1 hc2 hL hLL hnd hq hhs hsb hhd hds
  go_enter Try.func5, Try.ntmps5
  go_upto_region 1 with (first
    | (refine wpList_runH rfl (exec_allocF rfl (zPl _)) ?_)
    | fail)
  rw [← HW0.out, ← HG0.out]
  clear HW0 HG0
  go_upto_region 4 with (first
    | (refine wpList_runH rfl (exec_allocF rfl (zPl _)) ?_; rw [← HW1.out, ← HG1.out])
    | (refine wpList_build_run rfl _ [_, _] rfl [(0, .int .i64 (n : Int)), (1, .int .i64 (b : Int))] rfl _ (bldPl _ _ _) ?_)
    | (refine wpList_store_at rfl _ _ _ rfl g1 0 (pcells ⟨n, b, 0, [], 0, 0, 0, 0, 0, 0⟩ noS) rfl rfl 24 [] (pcells Pn.zero noS) [] (by simpa using HB1.out) rfl rfl iPl (pcells_one _ rfl) ?_; intro w2 hb2 hbut2; rw [List.nil_append, List.append_nil] at hb2)
    | fail)
  have HB2 := Hid.mk' hb2
  have HZ2 := Hid.mk' (HB01.out.but hbut2 HNE.out.1)
  have HT2 : Hid (Grow w w2) := HT1.out.then hbut2 (fun j hj e => by have := HNE.out.2.2; omega)
  clear hb2 hbut2 HW1 HG1 HB1 HB01 HT1
  go_wp2_with fail
  refine Calls.mono (HBG1.out _) ?_
  rintro e w' ⟨rfl, hw⟩
  have h3 := hw.symm
  subst h3
  clear hw HBG1
  go_upto_region 5 with (first
    | (refine wpList_store1 (g := g1) (i := 2) (v := .int .i64 (c : Int)) rfl iIn rfl rfl rfl rfl HB2.out (show 2 < 10 by decide) ?_; intro w3 hb3 hbut3)
    | fail)
  have hb3' : Blk w3 g1 24 (pcells ⟨n, b, c, [], 0, 0, 0, 0, 0, 0⟩ noS) := hb3
  have c2 : w3.cell? ⟨g1, 2, none⟩ = some (.int .i64 (c : Int)) := hb3'.cell 2
  have HB3 := Hid.mk' hb3'
  have HZ3 := Hid.mk' (HZ2.out.but hbut3 HNE.out.1)
  have HT3 : Hid (Grow w w3) := HT2.out.then hbut3 (fun j hj e => by have := HNE.out.2.2; omega)
  clear hb3 hb3' hbut3 HB2 HZ2 HT2
  go_wp2_with fail
  refine Calls.mono (HLV.out _) ?_
  rintro e w4 ⟨v4, rfl, ho4, hg4⟩
  obtain ⟨la, lc, e4⟩ := ho4.sl
  rw [toI_len] at e4
  obtain ⟨ln, hln⟩ : ∃ ln, ln = L.length := ⟨_, rfl⟩
  rw [← hln] at e4
  have HLN := Hid.mk' hln
  subst e4
  have HO4 := Hid.mk' (show Own w w4 _ _ from ⟨ho4.row, fun k hk => Nat.le_trans HT3.out.size (ho4.new k hk)⟩)
  have HN4 : Hid (∀ k, (Value.slice la ln lc).ownBlock = some k → k ≠ g0 ∧ k ≠ g1) := fun k hk => by
    have := ho4.new k hk
    have := HB3.out.lt
    have := HZ3.out.lt
    exact ⟨by omega, by omega⟩
  have HB4 := Hid.mk' (HB3.out.but hg4 (fun h => h))
  have HZ4 := Hid.mk' (HZ3.out.but hg4 (fun h => h))
  have HT4 := Hid.mk' (HT3.out.trans hg4)
  clear ho4 hln hg4 c2 HB3 HZ3 HT3 HLV
  go_upto_region 6 with (first
    | (refine wpList_store1 (g := g1) (i := 3) (v := .slice la ln lc) rfl iSl rfl rfl rfl rfl HB4.out (show 3 < 10 by decide) ?_; intro w5 hb5 hbut5)
    | fail)
  have HI0 : Hid (OfM w w5 g0 g1 (.slice la ln lc) L ⟨n, b, c, [], 0, 0, 0, 0, 0, 0⟩) :=
    ⟨hb5, HZ4.out.but hbut5 HNE.out.1, HO4.out.but hbut5 (fun j hj e => (HN4.out j hj).2 e), HT4.out.then hbut5 (fun j hj e => by have := HNE.out.2.2; omega), HNE.out, HN4.out⟩
  have c3 : w5.cell? ⟨g1, 3, none⟩ = some (.slice la ln lc) := HI0.out.one.cell 3
  clear hb5 hbut5 HB4 HZ4 HT4 HO4
  go_wp2
  have hlni : (ln : Int) ≤ 3 := by have := HLL.out.1; have := HLN.out; omega
  go_loopw [37] (fun iv wr => ∃ i : Nat, i ≤ ln ∧ iv = .int .i64 i ∧ OfM w wr g0 g1 (.slice la ln lc) L ⟨n, b, c, [], ((L.take i).sum : Nat), 0, 0, 0, 0, 0⟩) (fun iv _ => ln - (intOf iv).toNat)
  case atStart => exact ⟨0, Nat.zero_le _, rfl, HI0.out⟩
  case round =>
    clear HI0 c3
    obtain ⟨i, hil, rfl, hI⟩ := hrel
    by_cases hlt : i < ln
    · have hlti : (i : Int) < (ln : Int) := by omega
      obtain ⟨u, hu⟩ : ∃ u, L[i]? = some u := ⟨_, List.getElem?_eq_getElem (by have := HLN.out; omega)⟩
      obtain ⟨b4, c4, e4, hcell⟩ := row_cellP (e := 3) (L := numv (toI L)) (by rw [show (numv (toI L)).length = (toI L).length from List.length_map ..]; exact hI.own.row) (by rw [show (numv (toI L)).length = (toI L).length from List.length_map .., toI_len]; have := HLN.out; omega)
      simp only [Value.slice.injEq] at e4
      obtain ⟨rfl, -, rfl⟩ := e4
      have cu := hcell i (.int .i64 (u : Int)) (by unfold numv toI; rw [List.getElem?_map, List.getElem?_map, hu]; rfl)
      obtain ⟨sm, hsm⟩ : ∃ sm, sm = (L.take i).sum := ⟨_, rfl⟩
      have hsu : (L.take (i + 1)).sum = sm + u := by
        have h3 := List.getElem?_eq_some_iff.1 hu
        rw [List.take_succ_eq_append_getElem h3.1, List.sum_append, h3.2, hsm]; simp
      have hs37 : sm + u ≤ 37 := by
        rw [← hsu]
        refine Nat.le_trans ?_ HLL.out.2.2.1
        have := congrArg List.sum (List.take_append_drop (i + 1) L)
        rw [List.sum_append] at this
        omega
      have esm : (sm : Int) + (u : Int) = ((sm + u : Nat) : Int) := by omega
      have hsu1 : ((sm + u : Nat) : Int) ≤ 37 := by omega
      rw [← hsm] at hI
      have HI := Hid.mk' hI
      have HSU := Hid.mk' hsu
      have c4 : wr.cell? ⟨g1, 4, none⟩ = some (.int .i64 (sm : Int)) := hI.one.cell 4
      obtain ⟨su, hsu2⟩ : ∃ su : Int, su = ((sm + u : Nat) : Int) := ⟨_, rfl⟩
      rw [← hsu2] at esm hsu1
      have HSS : Hid (((sm + u : Nat) : Int) = su) := hsu2.symm
      clear hI hu hcell hsm hsu hs37 hil hsu2
      go_wp2_with (first
        | (refine wpList_store1 (g := g1) (i := 4) (v := .int .i64 su) rfl iIn rfl rfl rfl rfl HI.out.one (show 4 < 10 by decide) ?_; intro w6 hb6 hbut6)
        | fail)
      exact ⟨⟨i + 1, by omega, by go_num, by rw [HSU.out, HSS.out]; exact HI.out.put hb6 hbut6⟩, by simp [intOf]; omega⟩
    · have hie : i = ln := by omega
      have hlti : ¬ (i : Int) < (ln : Int) := by omega
      rw [hie, HLN.out, List.take_of_length_le (Nat.le_refl _), ← HND.out] at hI
      rw [← HLN.out] at hI
      have HI := Hid.mk' hI
      have d0 : wr.cell? ⟨g1, 0, none⟩ = some (.int .i64 (n : Int)) := hI.one.cell 0
      have d2 : wr.cell? ⟨g1, 2, none⟩ = some (.int .i64 (c : Int)) := hI.one.cell 2
      have d4 : wr.cell? ⟨g1, 4, none⟩ = some (.int .i64 (nd : Int)) := hI.one.cell 4
      obtain ⟨q1, q2, q3, q4⟩ := HSM.out
      obtain ⟨q5, q6, q7⟩ := HBD.out
      obtain ⟨s7, hs7⟩ : ∃ s : Int, s = ((hd + hs : Nat) : Int) := ⟨_, rfl⟩
      obtain ⟨s8, hs8⟩ : ∃ s : Int, s = ((hd + hs + b : Nat) : Int) := ⟨_, rfl⟩
      obtain ⟨s9, hs9⟩ : ∃ s : Int, s = ((hd + hs + b + b : Nat) : Int) := ⟨_, rfl⟩
      rw [← hs7] at q2 q3
      rw [← hs8] at q3 q4
      rw [← hs9] at q4
      have HPE : Hid (plan n b = ⟨n, b, c, toI L, nd, hd, hs, s7, s8, s9⟩) := by rw [hs7, hs8, hs9]; exact HPL.out
      have hQ := HQ.out
      have q8 : s7 ≤ 5000 := by omega
      have q9 : s8 ≤ 5500 := by omega
      clear hI hie hil hs7 hs8 hs9 HSM HBD HPL HQ hlt
      go_upto_region 12 with (first
        | (refine wpList_store1 (g := g1) (i := 5) (v := .int .i64 (hd : Int)) rfl iIn rfl rfl rfl rfl HI.out.one (show 5 < 10 by decide) ?_; intro w6 hb6 hbut6)
        | fail)
      have H6 := Hid.mk' (HI.out.put (p' := ⟨n, b, c, [], nd, hd, 0, 0, 0, 0⟩) hb6 hbut6)
      clear hb6 hbut6 d0 d2 d4 HI
      go_wp2_with fail
      refine Calls.mono (HBG2.out _) ?_
      rintro e w' ⟨rfl, hw⟩
      have h3 := hw.symm
      subst h3
      clear hw HBG2
      go_upto_region 13 with (first
        | (refine wpList_store1 (g := g1) (i := 6) (v := .int .i64 (hs : Int)) rfl iIn rfl rfl rfl rfl H6.out.one (show 6 < 10 by decide) ?_; intro w7 hb7 hbut7)
        | fail)
      have H7 := Hid.mk' (H6.out.put (p' := ⟨n, b, c, [], nd, hd, hs, 0, 0, 0⟩) hb7 hbut7)
      have d5 : w7.cell? ⟨g1, 5, none⟩ = some (.int .i64 (hd : Int)) := H7.out.one.cell 5
      have d6 : w7.cell? ⟨g1, 6, none⟩ = some (.int .i64 (hs : Int)) := H7.out.one.cell 6
      clear hb7 hbut7 H6
      go_upto_region 14 with (first
        | (refine wpList_store1 (g := g1) (i := 7) (v := .int .i64 s7) rfl iIn rfl rfl rfl rfl H7.out.one (show 7 < 10 by decide) ?_; intro w8 hb8 hbut8)
        | fail)
      have H8 := Hid.mk' (H7.out.put (p' := ⟨n, b, c, [], nd, hd, hs, s7, 0, 0⟩) hb8 hbut8)
      have d7 : w8.cell? ⟨g1, 7, none⟩ = some (.int .i64 s7) := H8.out.one.cell 7
      clear hb8 hbut8 H7 d5 d6
      go_upto_region 15 with (first
        | (refine wpList_store1 (g := g1) (i := 8) (v := .int .i64 s8) rfl iIn rfl rfl rfl rfl H8.out.one (show 8 < 10 by decide) ?_; intro w9 hb9 hbut9)
        | fail)
      have H9 := Hid.mk' (H8.out.put (p' := ⟨n, b, c, [], nd, hd, hs, s7, s8, 0⟩) hb9 hbut9)
      have d8 : w9.cell? ⟨g1, 8, none⟩ = some (.int .i64 s8) := H9.out.one.cell 8
      clear hb9 hbut9 H8 d7
      go_upto_region 16 with (first
        | (refine wpList_store1 (g := g1) (i := 9) (v := .int .i64 s9) rfl iIn rfl rfl rfl rfl H9.out.one (show 9 < 10 by decide) ?_; intro w10 hb10 hbut10)
        | fail)
      have H10 := Hid.mk' (H9.out.put (p' := ⟨n, b, c, [], nd, hd, hs, s7, s8, s9⟩) hb10 hbut10)
      have HCW : Hid (∀ j u, (pcells ⟨n, b, c, [], nd, hd, hs, s7, s8, s9⟩ (.slice la ln lc))[j]? = some u → w10.cell? ((⟨g1, 0, none⟩ : Addr).add j) = some u) := fun j u hj => by
        rw [addr_add, Nat.zero_add, H10.out.one.cell j]; exact hj
      clear hb10 hbut10 H9 d8
      go_wp2_with (first
        | (refine wpList_load_cells rfl _ _ rfl ⟨g1, 0, none⟩ rfl (pcells ⟨n, b, c, [], nd, hd, hs, s7, s8, s9⟩ (.slice la ln lc)) _ HCW.out Try.underlying24 rfl iPl ?_)
        | (refine wpList_store_at rfl _ _ _ rfl g0 0 (pcells ⟨n, b, c, [], nd, hd, hs, s7, s8, s9⟩ (.slice la ln lc)) rfl rfl 24 [] (pcells Pn.zero noS) [] (by simpa using H10.out.zero) rfl rfl iPl (pcells_one _ rfl) ?_; intro w11 hb11 hbut11; rw [List.nil_append, List.append_nil] at hb11)
        | fail)
      obtain ⟨ho, hg⟩ := H10.out.last hbut11
      refine bodyPost_ret (results_plan_tmp rfl _ _ g0 _ _ _ _ rfl hb11 Try.underlying24 rfl iPl rfl) rfl ⟨.slice la ln lc, ?_, ?_, hg⟩
      · rw [HPE.out]; rfl
      · rw [HPE.out]; exact ho
end Go.Proofs.Ytidblaepklgkcab
