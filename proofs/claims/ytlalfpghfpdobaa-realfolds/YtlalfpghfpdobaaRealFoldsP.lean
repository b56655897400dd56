/- For every list of numbers: the first and the last one are of it, nothing of it is ahead of the one or behind the other, and they do not hang on its order. No condition. -/
import Derived.Test.YtlalfpghfpdobaaRealFold
import Derived.ProofKit
import Derived.OpenShut
import Derived.ChangeOld
import Derived.Below
namespace Go.Proofs.Ytlalfpghfpdobaa
open Go.ChangeShapes Go.WideShapes Go.ChangeAt Go.RowKit

theorem f64info : (Try.prog.info? 22).map (fun i => (i.zero, i.size, i.bytes)) = some (some (.float .f64 0), 1, 8) := by kernel_rfl

theorem any_next (l : List Nat) (m k : Nat) (h : k < l.length) : (l.take (k + 1)).any (sa · m) = ((l.take k).any (sa · m) || sa (l.getD k 0) m) := by
  rw [take_next l k h, List.any_append]; simp
theorem rev_next (l : List Nat) (k : Nat) (h : k < l.length) : l.reverse.take (k + 1) = l.reverse.take k ++ [l.getD (l.length - 1 - k) 0] := by
  rw [take_next l.reverse k (by simpa using h)]
  congr 2
  simp [List.getD, List.getElem?_reverse h]

theorem own_shape {w : World} {B : Nat} {e : TypeId} {v : Value} {n : Nat} {xs : List Value} (h : w.ownsRow B e 1 v n xs) (hn : 0 < n) :
    ∃ g cap, v = .slice (some ⟨g, 0, none⟩) n cap ∧ n ≤ cap ∧ ∀ i, i < n → w.cell? ⟨g, 0 + i, none⟩ = xs[i]? := by
  have h' := h
  obtain ⟨_, hc⟩ := h
  rcases hc with ⟨_, h0⟩ | ⟨g, cap, cur, rfl, _, _, hcap, _, _, _⟩
  · omega
  · exact ⟨g, cap, rfl, hcap, fun i hi => by rw [Nat.zero_add]; exact h'.cellAt i (by omega)⟩

theorem mn_all (zs : List Nat) (hl : 0 < zs.length) : zs.any (sa · (mnf zs)) = true := by
  obtain ⟨z, hz, e⟩ := mnf_mem zs hl
  rw [List.any_eq_true]; exact ⟨z, hz, by unfold sa; simpa using e⟩
theorem mx_all (zs : List Nat) (hl : 0 < zs.length) : zs.any (sa · (mxl zs)) = true := by
  rw [List.any_eq_true]; exact ⟨_, (mxl_le zs hl).2, sa_refl _⟩
theorem bool_eq {a b : Bool} (h : a = b) : Value.bool a = .bool b := by rw [h]

theorem rel_own {w1 : World} {B : Nat} {e : TypeId} {v' : Value} {k y : Nat} {l : List Nat} (hr : l.take (k + 1) = l.take k ++ [y])
    (h : w1.ownsRow B e 1 v' (k + 1) ((l.take k).map (Value.float .f64) ++ [.float .f64 y])) : w1.ownsRow B e 1 v' (k + 1) ((l.take (k + 1)).map (Value.float .f64)) := by
  rw [hr, List.map_append]; exact h
theorem rel_below {w wr w1 : World} {B : Nat} {e : TypeId} {v : Value} {k : Nat} {xs : List Value} {o : Obj} (hnx : Below B w wr) (hB : B ≤ wr.heap.size) (hown : wr.ownsRow B e 1 v k xs)
    (hgrow : (wr.alloc o).grownBy w1 v.ownBlock) : Below B w w1 :=
  (hnx.alloc hB o).grown hgrow (by simp; omega) (fun j hj => (hown.lt j hj).1)

set_option maxHeartbeats 1000000 in
theorem realFolds_walk (v : Value) (zs : List Nat) (w : World) (hv : IsFloats w v zs) :
    Calls Try.prog 7 #[v] w fun e w' => e = .returned (.bool true) ∧ Below w.heap.size w w' := by
  obtain ⟨hw, hl, hcase⟩ := hv
  rcases hcase with ⟨rfl, ao, cap, rfl⟩ | ⟨h0, b, off, cap, rfl, hcap, hb, hc⟩
  · -- nothing
    have k1 := ne_self 9221120237041090561 (by decide)
    have k2 : nn 9221120237041090561 = true := by decide
    rw [k2] at k1
    have k3 : mnf [4611686018427387904, 4607182418800017408] = 4607182418800017408 := by decide
    have k4 : (FloatKind.f64.format.order 4607182418800017408 4607182418800017408 == some Ordering.eq) = true := by decide
    have hm2 := min_any w.heap.size 0 2 [4611686018427387904, 4607182418800017408] (w.alloc (.cells #[.float .f64 4611686018427387904, .float .f64 4607182418800017408] 22)) (by decide) (by decide) (by
      intro i hi
      rw [World.cell?_alloc_at _ _ _ _ rfl]
      match i, hi with
      | 0, _ => rfl
      | 1, _ => rfl)
    rw [k3] at hm2
    have HM : Hid (Calls Try.prog 19 #[.slice (some ⟨w.heap.size, 0, none⟩) 2 2] (w.alloc (.cells #[.float .f64 4611686018427387904, .float .f64 4607182418800017408] 22)) fun e w' => e = .returned (.float .f64 4607182418800017408) ∧ w' = (w.alloc (.cells #[.float .f64 4611686018427387904, .float .f64 4607182418800017408] 22))) := hm2
    clear k2 hw hl k3 hm2
    go_enter Try.func7, Try.ntmps7
    go_wp2_with fail
    refine (min_empty _ _ _).mono ?_
    rintro e w' ⟨rfl, hw1⟩
    have hw2 := hw1.symm
    subst hw2
    go_wp2_with fail
    refine (max_empty _ _ _).mono ?_
    rintro e w' ⟨rfl, hw1⟩
    have hw2 := hw1.symm
    subst hw2
    go_wp2_with fail
    refine Calls.mono HM.out ?_
    rintro e w' ⟨rfl, hw1⟩
    have hw2 := hw1.symm
    subst hw2
    go_wp2
    go_ret
    exact ⟨rfl, (Below.refl _ _).alloc (Nat.le_refl _) _⟩
  · -- a list with a first one
    obtain ⟨n, hn⟩ : ∃ n, zs.length = n := ⟨_, rfl⟩
    rw [hn] at hl hcap h0
    have HN : Hid (zs.length = n) := hn
    have HC : Hid (∀ i, i < zs.length → w.cell? ⟨b, off + i, none⟩ = some (.float .f64 (zs.getD i 0))) := hc
    have HW : Hid (∀ z ∈ zs, z < 18446744073709551616) := hw
    have hmin := min_any b off cap zs w (by omega) hw hc
    have hmax := max_any b off cap zs w (by omega) (by omega) (by omega) hw hc
    rw [hn] at hmin hmax ⊢
    obtain ⟨mn, hmn⟩ : ∃ mn, mnf zs = mn := ⟨_, rfl⟩
    obtain ⟨mx, hmx⟩ : ∃ mx, mxl zs = mx := ⟨_, rfl⟩
    have HMN : Hid (mnf zs = mn) := hmn
    have HMX : Hid (mxl zs = mx) := hmx
    have mn1 : mn < 18446744073709551616 := by rw [← hmn]; exact mnf_lt _ HW.out
    have mx1 : mx < 18446744073709551616 := by rw [← hmx]; exact HW.out _ (mxl_le zs (by omega)).2
    rw [hmn] at hmin
    rw [hmx] at hmax
    have HMIN : Hid (Calls Try.prog 19 #[.slice (some ⟨b, off, none⟩) n cap] w fun e w' => e = .returned (.float .f64 mn) ∧ w' = w) := hmin
    have HMAX : Hid (Calls Try.prog 20 #[.slice (some ⟨b, off, none⟩) n cap] w fun e w' => e = .returned (.float .f64 mx) ∧ w' = w) := hmax
    clear hn hc hw hmin hmax hmn hmx
    have hn0 : ((n : Int) == 0) = false := by simp; omega
    obtain ⟨i0, hi, hz0, hz1, hz2⟩ := info_parts f64info
    go_enter Try.func7, Try.ntmps7
    go_wp2_with fail
    refine Calls.mono HMIN.out ?_
    rintro e w' ⟨rfl, hw1⟩
    have hw2 := hw1.symm
    subst hw2
    go_wp2_with fail
    refine Calls.mono HMAX.out ?_
    rintro e w' ⟨rfl, hw1⟩
    have hw2 := hw1.symm
    subst hw2
    go_wp2
    go_loopw [5, 6, 7, 8] (fun f l t i wr => ∃ k : Nat, k ≤ n ∧ i = .int .i64 k ∧ f = .bool ((zs.take k).any (sa · mn)) ∧ l = .bool ((zs.take k).any (sa · mx)) ∧ wr.ownsRow w.heap.size 22 1 t k ((zs.reverse.take k).map (Value.float .f64)) ∧ Below w.heap.size w wr)
      (fun _ _ _ i _ => n - (intOf i).toNat)
    case atStart => exact ⟨0, Nat.zero_le _, rfl, rfl, rfl, World.ownsRow_nil _ _ _ _, Below.refl _ _⟩
    case round =>
      obtain ⟨k, hk, rfl, rfl, rfl, hown, hnx⟩ := hrel
      have hsz := hnx.size
      by_cases hlt : k < n
      · obtain ⟨z, hz⟩ : ∃ z, zs.getD k 0 = z := ⟨_, rfl⟩
        obtain ⟨y, hy⟩ : ∃ y, zs.getD (n - 1 - k) 0 = y := ⟨_, rfl⟩
        have hzm : z ∈ zs := by
          have hkl : k < zs.length := by rw [HN.out]; exact hlt
          rw [← hz]; simp [List.getD, List.getElem?_eq_getElem hkl]
        have hcz : wr.cell? ⟨b, off + k, none⟩ = some (.float .f64 z) := by
          rw [← hz]; exact (hnx.cell (by exact hb)).trans (HC.out k (by rw [HN.out]; exact hlt))
        have hcy : wr.cell? ⟨b, off + (n - 1 - k), none⟩ = some (.float .f64 y) := by
          rw [← hy]; exact (hnx.cell (by exact hb)).trans (HC.out _ (by rw [HN.out]; omega))
        have hz1' : z < 18446744073709551616 := HW.out z hzm
        have l1 : ls z mn = false := by
          have := (mnf_le zs).1 z hzm; rw [HMN.out] at this; unfold ls; simpa using this
        have l2 : ls mx z = false := by
          have := (mxl_le zs (by rw [HN.out]; omega)).1 z hzm; rw [HMX.out] at this; unfold ls; simpa using this
        have HF : Hid ((zs.take (k + 1)).any (sa · mn) = ((zs.take k).any (sa · mn) || sa z mn)) := by
          have := any_next zs mn k (by rw [HN.out]; exact hlt); rw [hz] at this; exact this
        have HL : Hid ((zs.take (k + 1)).any (sa · mx) = ((zs.take k).any (sa · mx) || sa z mx)) := by
          have := any_next zs mx k (by rw [HN.out]; exact hlt); rw [hz] at this; exact this
        have HR : Hid (zs.reverse.take (k + 1) = zs.reverse.take k ++ [y]) := by
          have := rev_next zs k (by rw [HN.out]; exact hlt); rw [HN.out, hy] at this; exact this
        clear hz hy hzm
        generalize (zs.take k).any (sa · mn) = F at HF ⊢
        generalize (zs.take k).any (sa · mx) = L at HL ⊢
        have HO : Hid (wr.ownsRow w.heap.size 22 1 u7 k ((zs.reverse.take k).map (Value.float .f64))) := hown
        clear hown
        cases F <;> cases L
        all_goals
          go_wp2_with (first
            | (go_at_call 18; refine (refLess_any _ _ _ (by assumption) (by assumption)).mono ?_; rintro e w' ⟨rfl, hw1⟩; have hw2 := hw1.symm; subst hw2)
            | (go_at_call 11; refine (same_any _ _ _ (by assumption) (by assumption)).mono ?_; rintro e w' ⟨rfl, hw1⟩; have hw2 := hw1.symm; subst hw2)
            | (at_builtin; refine wpList_append_own _ rfl _ _ 32 rfl w.heap.size 22 i0 (.float .f64 0) 1 8 Try.underlying32 hi hz0 hz1 hz2 rfl (by decide) _ _ _ rfl (HO.out.alloc _) ⟨wr.heap.size, 0, none⟩ 1 1 [.float .f64 y] rfl rfl (cell_one_new _ _ _) (by intro u hu; simp at hu; subst hu; rfl) (by unfold maxLen; omega) (by omega) (by simp; omega) ?_; intro v' w1 hown' hgrow hnil'))
          go_roundw
          case rel => exact ⟨k + 1, by omega, by go_num, bool_eq (by rw [HF.out]; rfl), bool_eq (by rw [HL.out]; rfl), rel_own HR.out (by assumption), rel_below hnx hsz HO.out (by assumption)⟩
          case measure => simp [intOf]; omega
      · have hkn : k = n := by omega
        subst hkn
        have f1 : (zs.take k).any (sa · mn) = true := by
          rw [List.take_of_length_le (by rw [HN.out]; omega), ← HMN.out]; exact mn_all zs (by rw [HN.out]; omega)
        have f2 : (zs.take k).any (sa · mx) = true := by
          rw [List.take_of_length_le (by rw [HN.out]; omega), ← HMX.out]; exact mx_all zs (by rw [HN.out]; omega)
        rw [f1, f2]
        obtain ⟨g, cap', hv, hcap', hcells⟩ := own_shape hown h0
        rw [hv]
        rw [List.take_of_length_le (by rw [List.length_reverse, HN.out]; omega)] at hcells
        have hc2 : ∀ i, i < zs.reverse.length → wr.cell? ⟨g, 0 + i, none⟩ = some (.float .f64 (zs.reverse.getD i 0)) := by
          intro i hi
          rw [hcells i (by rw [List.length_reverse, HN.out] at hi; exact hi)]
          rw [List.getElem?_map, List.getElem?_eq_getElem hi]
          simp only [List.getD, List.getElem?_eq_getElem hi]; rfl
        have hwr : ∀ z ∈ zs.reverse, z < 18446744073709551616 := fun z hz => HW.out z (by simpa using hz)
        have hmin := min_any g 0 cap' zs.reverse wr (by rw [List.length_reverse, HN.out]; exact hl) hwr hc2
        have hmax := max_any g 0 cap' zs.reverse wr (by rw [List.length_reverse, HN.out]; exact h0) (by rw [List.length_reverse, HN.out]; exact hcap') (by rw [List.length_reverse, HN.out]; exact hl) hwr hc2
        rw [List.length_reverse, HN.out] at hmin hmax
        obtain ⟨mn', hmn'⟩ : ∃ m, mnf zs.reverse = m := ⟨_, rfl⟩
        obtain ⟨mx', hmx'⟩ : ∃ m, mxl zs.reverse = m := ⟨_, rfl⟩
        have mn2 : mn' < 18446744073709551616 := by rw [← hmn']; exact mnf_lt _ hwr
        have mx2 : mx' < 18446744073709551616 := by rw [← hmx']; exact hwr _ (mxl_le zs.reverse (by rw [List.length_reverse, HN.out]; exact h0)).2
        have s1 : sa mn' mn = true := by rw [← hmn', ← HMN.out]; exact mnf_rev zs (by rw [HN.out]; exact h0)
        have s2 : sa mx' mx = true := by rw [← hmx', ← HMX.out]; exact mxl_rev zs (by rw [HN.out]; exact h0)
        rw [hmn'] at hmin
        rw [hmx'] at hmax
        have HMIN2 : Hid (Calls Try.prog 19 #[.slice (some ⟨g, 0, none⟩) k cap'] wr fun e w' => e = .returned (.float .f64 mn') ∧ w' = wr) := hmin
        have HMAX2 : Hid (Calls Try.prog 20 #[.slice (some ⟨g, 0, none⟩) k cap'] wr fun e w' => e = .returned (.float .f64 mx') ∧ w' = wr) := hmax
        clear hmin hmax hmn' hmx' hwr hc2 hcells hown hv f1 f2
        go_wp2_with fail
        refine Calls.mono HMIN2.out ?_
        rintro e w' ⟨rfl, hw1⟩
        have hw2 := hw1.symm
        subst hw2
        go_wp2_with fail
        refine (same_any _ _ _ mn2 mn1).mono ?_
        rintro e w' ⟨rfl, hw1⟩
        have hw2 := hw1.symm
        subst hw2
        go_wp2_with fail
        refine Calls.mono HMAX2.out ?_
        rintro e w' ⟨rfl, hw1⟩
        have hw2 := hw1.symm
        subst hw2
        go_wp2_with fail
        refine (same_any _ _ _ mx2 mx1).mono ?_
        rintro e w' ⟨rfl, hw1⟩
        have hw2 := hw1.symm
        subst hw2
        go_wp2
        go_ret
        exact ⟨rfl, hnx⟩

set_option maxRecDepth 100000 in
theorem realFolds_lifted (os : Os) (started : os.Started) (H : Type) (enc : TypeId × Value → H) :
    ReturnsInHanded {} Try.checked os 7 .any (Rows.realFoldsSpec.pre6 enc Try.prog Try.f7 Rows.realFoldsRow.domain false) (Rows.realFoldsSpec.post enc Try.prog Try.f7 false true false false) := by
  refine returnsInHanded_of_change_sized (C := Try.checked) (by kernel_rfl) started (by kernel_rfl) Try.func7
    (ChangeSpec.witness6 (enc := enc) (C := Try.checked) false ⟨#[], #[.slice none 0 0], []⟩ 8 (by kernel_rfl) (by kernel_rfl) (by kernel_rfl) (by kernel_rfl)) ?_
  intro W base args ds gs before hval0 hW hcnd hsz0 _
  have hsz : (DataW.weightsEach Try.prog (Try.f7.params.toList ++ Rows.realFoldsSpec.plain.varTypes Try.prog) (ds ++ gs)).all (· ≤ reachBytes) = true := hsz0
  clear hsz0
  have hval : ∀ (j : Nat) t v, Try.f7.params[j]? = some t → args[j]? = some v → Value.okWide Try.prog W .any base t v := hval0
  have hW' := hW
  obtain ⟨p, q, hA0, hV, rfl, hfz, hnd⟩ := hW
  have hA : DataW.TrodAll enc Try.prog W 0 (fun _ => true) true Try.f7.params.toList args.toList ds p := hA0
  rw [Try.params7] at hA hval hsz
  obtain ⟨v0, vs0, d0, ds0, p0, q0, hargs, rfl, rfl, h0, r0⟩ := trodAll_cons hA
  obtain ⟨rfl, rfl, rfl⟩ := trodAll_nil r0
  obtain rfl : args = #[v0] := by cases args; simp_all
  obtain ⟨rfl, rfl⟩ := trodVars_none hV
  have lt0 : ∀ x ∈ p0, x.block < W.heap.size := by obtain ⟨m, hm⟩ := h0; exact DataW.trod_lt m _ _ _ hm
  obtain ⟨z0, w0⟩ := view_floats Try.underlying32 Try.underlying22 (by kernel_rfl) (by kernel_rfl) (hval 0 32 v0 rfl rfl) h0 lt0 hsz (j := 0) rfl rfl
  clear hA0 hval0
  refine (realFolds_walk v0 z0 W w0).mono fun e W' ⟨he, bel⟩ => ?_
  subst he
  exact ⟨_, rfl, _, _, _, [], _, [], hW', trodAll_mk1 (shut_bool Try.underlying4 _), (trodAll_cons_mk (Below.trod (by kernel_rfl) (by kernel_rfl) (of_decide_eq_true (by kernel_rfl)) h0 bel lt0) trodAll_mk0), rfl, bel.frame _, fun h => by cases h⟩

theorem realFolds_holds : Rows.RealFoldsSaid :=
  OpenClaim.holds_of_wide 7 Try.f7 rfl rfl rfl rfl rfl rfl rfl ⟨rfl, rfl, rfl, rfl, rfl⟩ rfl rfl rfl rfl rfl (by kernel_rfl) Try.func7 (by kernel_rfl)
    (of_decide_eq_true (by kernel_rfl)) (by unfold Func.isWrapper; first | (rw [if_pos (by decide +kernel)]; kernel_rfl) | (rw [if_neg (by decide +kernel)]; exact ⟨rfl, rfl⟩))
    (fun os started H enc _ => realFolds_lifted os started H enc)
#print axioms realFolds_holds
end Go.Proofs.Ytlalfpghfpdobaa
