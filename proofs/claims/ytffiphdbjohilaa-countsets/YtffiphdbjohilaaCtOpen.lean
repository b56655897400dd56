/- count: Open. -/
import Derived.Test.YtffiphdbjohilaaCtRead
namespace Go.Proofs.Ytffiphdbjohilaa
open Go.ChangeShapes Go.WideShapes Go.ChangeAt Go.RowKit Go.Deep

theorem wpList_runE {ops : Array Oper} {rest : List Oper} {o : Oper} {a : Act} {w w' : World} {Q : Exit → Act → World → Prop} {v : Value} (hgd : o.guard = none) (hr : (execOp a.eval o).run Try.prog w = .ok (.value v) w') (h : wpList Try.prog ops Q rest (a.put o.dst v) w') : wpList Try.prog ops Q (o :: rest) a w :=
  wpList_plain hgd fun _ hK => by
    unfold Oper.wp
    rw [hr]
    exact hK _ _ h
theorem exec_makeE {w w' : World} {o : Oper} {ρ : Operand → Value} {t : TypeId} {x y : Operand} {u v r : Value} (ho : o.op = .makeSlice t x y) (hx : ρ x = u) (hy : ρ y = v) (h : (Instr.makeSlice t u v).run Try.prog w = .ok r w') : (execOp ρ o).run Try.prog w = .ok (.value r) w' := by
  unfold execOp
  simp [ho, hx, hy, h, Result.andThen]

/-- The cells of n entries, one behind the other. -/
def flatE (F : Nat → En) : Nat → List Value
  | 0 => []
  | n + 1 => ecells (F 0) ++ flatE (fun j => F (j + 1)) n
theorem flatE_len : ∀ (n : Nat) (F : Nat → En), (flatE F n).length = 3 * n
  | 0, _ => rfl
  | n + 1, F => by rw [flatE, List.length_append, flatE_len n]; simp [ecells]; omega
theorem flatE_congr : ∀ (n : Nat) {F G : Nat → En}, (∀ i, i < n → F i = G i) → flatE F n = flatE G n
  | 0, _, _, _ => rfl
  | n + 1, F, G, h => by rw [flatE, flatE, h 0 (by omega), flatE_congr n (fun i hi => h (i + 1) (by omega))]
theorem flatE_split : ∀ (k n : Nat) (F : Nat → En), k < n → flatE F n = flatE F k ++ ecells (F k) ++ flatE (fun j => F (k + 1 + j)) (n - (k + 1))
  | 0, n + 1, F, _ => by
    rw [flatE, flatE]
    have e : (fun j => F (0 + 1 + j)) = fun j => F (j + 1) := by funext j; congr 1; omega
    rw [e]; simp
  | k + 1, n + 1, F, h => by
    rw [flatE, flatE, flatE_split k n (fun j => F (j + 1)) (by omega)]
    have e : (fun j => F (k + 1 + j + 1)) = fun j => F (k + 1 + 1 + j) := by funext j; congr 1; omega
    rw [e, show n + 1 - (k + 1 + 1) = n - (k + 1) by omega]
    simp
theorem flatE_get {n k : Nat} (F : Nat → En) (h : k < n) (c : Nat) (u : Value) (hu : (ecells (F k))[c]? = some u) : (flatE F n)[k * 3 + c]? = some u := by
  have hc : c < 3 := by have := (List.getElem?_eq_some_iff.1 hu).1; simpa [ecells] using this
  rw [flatE_split k n F h, List.append_assoc, List.getElem?_append_right (by rw [flatE_len]; omega), flatE_len, List.getElem?_append_left (by simp [ecells]; omega), show k * 3 + c - 3 * k = c by omega]
  exact hu
/-- The first k entries are read. -/
def upE (zs : List Nat) (k : Nat) : Nat → En := fun i => if i < k then atE zs i else ⟨0, 0, 0⟩
theorem upE_step (zs : List Nat) {k n : Nat} (h : k < n) : flatE (upE zs (k + 1)) n = flatE (upE zs k) k ++ ecells (atE zs k) ++ flatE (fun j => upE zs k (k + 1 + j)) (n - (k + 1)) := by
  rw [flatE_split k n _ h]
  have e1 : flatE (upE zs (k + 1)) k = flatE (upE zs k) k := flatE_congr k (fun i hi => by simp [upE, hi, show i < k + 1 by omega])
  have e2 : upE zs (k + 1) k = atE zs k := by simp [upE]
  have e3 : flatE (fun j => upE zs (k + 1) (k + 1 + j)) (n - (k + 1)) = flatE (fun j => upE zs k (k + 1 + j)) (n - (k + 1)) :=
    flatE_congr _ (fun i _ => by simp [upE, show ¬ k + 1 + i < k by omega, show ¬ k + 1 + i < k + 1 by omega])
  rw [e1, e2, e3]
theorem upE_all (zs : List Nat) (n : Nat) : flatE (upE zs n) n = flatE (atE zs) n := flatE_congr n (fun i hi => by simp [upE, hi])
theorem make_ens (w : World) : (Instr.makeSlice 22 (.int .i64 16) (.int .i64 16)).run Try.prog w = .ok (.slice (some ⟨w.heap.size, 0, none⟩) 16 16) (w.alloc (.cells (flatE (fun _ => ⟨0, 0, 0⟩) 16).toArray 39)) := by kernel_rfl
/-- New entries. -/
structure NewEns (w w' : World) (v : Value) (A : Nat → En) : Prop where
  ex : ∃ g, v = .slice (some ⟨g, 0, none⟩) 16 16 ∧ w.heap.size ≤ g ∧ Blk w' g 39 (flatE A 16)
  but : But (fun _ => False) w w'
theorem NewEns.ens {w w' : World} {v : Value} {A : Nat → En} (h : NewEns w w' v A) (hA : ∀ i, i < 16 → (A i).ok) : Ens w' v 16 A := by
  obtain ⟨⟨g, rfl, hg, hb⟩, _⟩ := h
  refine ⟨by omega, .inr ⟨by omega, g, 0, 16, rfl, Nat.le_refl _, hb.lt, fun i hi => ⟨hA i hi, fun c u hu => ?_⟩⟩⟩
  rw [Nat.zero_add, hb.cell]
  exact flatE_get A hi c u hu
theorem open_no {w : World} {ao : Option Addr} {n cap : Nat} (hn : n ≠ 256) :
    Calls Try.prog 13 #[.slice ao n cap] w fun r w' => r = .returned (.tuple #[.slice none 0 0, .int .i64 (rf n)]) ∧ w' = w := by
  have HC := Hid.mk' (refused_any (w := w) (ao := ao) (n := n) (cap := cap))
  obtain ⟨R, hR⟩ : ∃ R, R = rf n := ⟨_, rfl⟩
  rw [← hR] at HC ⊢
  have h0 : (R != 0) = true := by
    rw [hR, rf]
    by_cases h1 : n < 256
    · rw [if_pos h1]; rfl
    · rw [if_neg h1, if_pos (by omega)]; rfl
  clear hR hn
  go_enter Try.func13, Try.ntmps13
  go_wp2_with fail
  refine Calls.mono HC.out ?_
  rintro e w1 ⟨rfl, hw1⟩
  have hw2 := hw1.symm
  subst hw2
  go_wp2
  go_ret2
  exact ⟨rfl, rfl⟩
set_option maxRecDepth 100000 in
set_option maxHeartbeats 3000000 in
theorem open_any {w : World} {v : Value} {zs : List Nat} (hv : Bs w v zs) (hl : zs.length = 256) :
    Calls Try.prog 13 #[v] w fun r w' => ∃ v', r = .returned (.tuple #[v', .int .i64 0]) ∧ NewEns w w' v' (atE zs) := by
  have HV := Hid.mk' hv
  obtain ⟨ao, cap, rfl, -, -⟩ := hv.gen
  have HC := Hid.mk' (refused_any (w := w) (ao := ao) (n := zs.length) (cap := cap))
  have e0 : rf zs.length = 0 := by rw [hl]; rfl
  rw [e0] at HC
  rw [hl] at HC HV ⊢
  have HL := Hid.mk' hl
  clear hv hl e0
  obtain ⟨g, hg⟩ : ∃ g, g = w.heap.size := ⟨_, rfl⟩
  obtain ⟨W1, hW1⟩ : ∃ W1, W1 = w.alloc (.cells (flatE (fun _ => ⟨0, 0, 0⟩) 16).toArray 39) := ⟨_, rfl⟩
  have hmk := make_ens w
  rw [← hW1, ← hg] at hmk
  have HMK := Hid.mk' hmk
  have hb1 : Blk W1 g 39 (flatE (upE zs 0) 16) := by
    rw [hW1, flatE_congr 16 (F := upE zs 0) (G := fun _ => ⟨0, 0, 0⟩) (fun i _ => by simp [upE])]
    exact Blk.new hg.symm
  have ht1 : But (fun _ => False) w W1 := by rw [hW1]; exact (But.refl _ _).alloc _
  have HB1 := Hid.mk' hb1
  have HT1 := Hid.mk' ht1
  have HG := Hid.mk' hg
  have HRD := Hid.mk' (reader_any (HV.out.but ht1 (fun _ _ _ h => h)) (by rw [HL.out]; decide))
  clear hmk hW1 hb1 ht1 hg
  go_enter Try.func13, Try.ntmps13
  go_wp2_with fail
  refine Calls.mono HC.out ?_
  rintro e w1 ⟨rfl, hw1⟩
  have hw2 := hw1.symm
  subst hw2
  clear HC hw1
  go_wp2_with (refine wpList_runE rfl (exec_makeE (r := .slice (some ⟨g, 0, none⟩) 16 16) (w' := W1) rfl rfl rfl HMK.out) ?_)
  refine Calls.mono HRD.out ?_
  rintro e w2 ⟨r, og, rfl, hr, hog, hrd, hbel⟩
  have hgr : g < r := by have := HB1.out.lt; omega
  have hgo : ∀ x, og = some x → g < x := fun x hx => by have := HB1.out.lt; have := hog x hx; omega
  have hb2 := HB1.out.but (But.of (R := fun _ => False) hbel) (fun h => h)
  have ht2 : But (fun _ => False) w w2 := HT1.out.trans (But.of hbel)
  have HGO := Hid.mk' hgo
  have hrw : w.heap.size ≤ r := by have := HT1.out.size; omega
  clear hr hog hbel hgo HRD HMK HB1 HT1
  go_wp2
  go_loopw [18] (fun i wr => ∃ k : Nat, k ≤ 16 ∧ i = .int .i64 k ∧ Rd wr r og (zs.drop (16 * k)) 0 ∧ Blk wr g 39 (flatE (upE zs k) 16) ∧ But (fun _ => False) w wr) (fun i _ => 16 - (intOf i).toNat)
  case atStart => exact ⟨0, Nat.zero_le _, rfl, by simpa using hrd, hb2, ht2⟩
  case round =>
    obtain ⟨k, hk, rfl, hrk, hb, ht⟩ := hrel
    by_cases hlt : k < 16
    · have HRE := Hid.mk' (read_any hrk (by rw [List.length_drop, HL.out]; omega))
      have HB := Hid.mk' hb
      have HT := Hid.mk' ht
      clear hrk hb ht hb2 ht2 hrd
      go_wp2_with fail
      refine Calls.mono HRE.out ?_
      rintro e w3 ⟨rfl, hr3, ht3⟩
      have HB3 := Hid.mk' (HB.out.but ht3 (show ¬ (g = r) by omega))
      have HT3 := Hid.mk' (HT.out.then ht3 (fun j hj e => by omega))
      have HR3 := Hid.mk' hr3
      have e4 : zs.drop (16 * k + 16) = zs.drop (16 * (k + 1)) := rfl
      rw [List.drop_drop] at HR3
      clear hr3 ht3 HRE HB HT
      rw [flatE_split k 16 _ hlt] at HB3
      go_wp2_with (refine wpList_store_at rfl _ _ _ rfl g (k * 3) (ecells (en (zs.drop (16 * k)))) rfl (by exact rfl) 39 _ (ecells (upE zs k k)) _ HB3.out (by rw [flatE_len]; omega) rfl (by rw [iEn]; rfl) (ecells_one _) ?_; intro w4 hb4 hbut4)
      have HB4 : Hid (Blk w4 g 39 (flatE (upE zs (k + 1)) 16)) := by
        show Blk _ _ _ _
        rw [upE_step zs hlt]
        exact hb4
      have HR4 := Hid.mk' (HR3.out.but hbut4 (show ¬ (r = g) by omega) (fun x hx e => by have := HGO.out x hx; omega))
      have HT4 : Hid (But (fun _ => False) w w4) := HT3.out.then hbut4 (fun j hj e => by have := HG.out; omega)
      clear hb4 hbut4 HB3 HT3 HR3
      first
        | exact ⟨⟨k + 1, by omega, by go_num, HR4.out, HB4.out, HT4.out⟩, by simp [intOf]; omega⟩
        | (go_wp2
           exact ⟨⟨k + 1, by omega, by go_num, HR4.out, HB4.out, HT4.out⟩, by simp [intOf]; omega⟩)
    · have hkn : k = 16 := by omega
      subst hkn
      have HB := Hid.mk' hb
      have HT := Hid.mk' ht
      clear hrk hb ht hb2 ht2 hrd
      go_wp2
      go_ret2
      rw [upE_all] at HB
      exact ⟨_, rfl, ⟨⟨g, rfl, by have := HG.out; omega, HB.out⟩, HT.out⟩⟩
end Go.Proofs.Ytffiphdbjohilaa
