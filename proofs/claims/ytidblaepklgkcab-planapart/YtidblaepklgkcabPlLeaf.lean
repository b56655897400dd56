/- plan: begun, levels, Top, there. -/
import Derived.Test.YtidblaepklgkcabPlMath
namespace Go.Proofs.Ytidblaepklgkcab
open Go.RowKit

theorem tdiv_nat (a b : Nat) : Int.tdiv (a : Int) (b : Int) = ((a / b : Nat) : Int) := (Int.ofNat_tdiv a b).symm
set_option maxRecDepth 100000 in
theorem begun_any (w : World) (n s : Nat) (h1 : n ≤ 100000) (h0 : 1 ≤ s) (h2 : s ≤ 100000) : Calls Try.prog 12 #[.int .i64 (n : Int), .int .i64 (s : Int)] w fun e w' => e = .returned (.int .i64 (bg n s : Int)) ∧ w' = w := by
  obtain ⟨N, hN⟩ : ∃ N : Int, N = (n : Int) := ⟨_, rfl⟩
  obtain ⟨S, hS⟩ : ∃ S : Int, S = (s : Int) := ⟨_, rfl⟩
  have hq : Int.tdiv (N + S - 1) S = (bg n s : Int) := by
    rw [hN, hS, show (n : Int) + (s : Int) - 1 = ((n + s - 1 : Nat) : Int) by omega, tdiv_nat]; rfl
  rw [← hN, ← hS]
  have hN0 : 0 ≤ N := by omega
  have hN1 : N ≤ 100000 := by omega
  have hS0 : 1 ≤ S := by omega
  have hS1 : S ≤ 100000 := by omega
  have hSn : ¬ S = 0 := by omega
  have hBb : (bg n s : Int) ≤ 200000 := by
    have : bg n s ≤ n + s - 1 := Nat.div_le_self _ _
    omega
  have hB0 : (0 : Int) ≤ (bg n s : Int) := by omega
  generalize (bg n s : Int) = B at hq hBb hB0
  clear hN hS
  go_enter Try.func12, Try.ntmps12
  go_wp2
  go_ret
  exact ⟨rfl, rfl⟩
/-- A plan in a box. -/
structure PBox (w : World) (p : Pn) (v : Value) (wb : World) (gp : Nat) : Prop where
  ew : wb = w.alloc (.cells (pcells p v).toArray 24)
  eg : gp = w.heap.size
  grow : Grow w wb
  blk : Blk wb gp 24 (pcells p v)
theorem box_pl (w : World) (p : Pn) (v : Value) : ∃ wb gp, PBox w p v wb gp :=
  ⟨_, _, rfl, rfl, (But.refl _ w).alloc _, Blk.new rfl⟩
theorem iPl : (Try.prog.info? 24).map (·.size) = some 10 := by kernel_rfl
/-- A sum, a difference, as the machine makes them. -/
def ad (a b : Int) : Int := IntKind.i64.wrap (a + b)
def sb (a b : Int) : Int := IntKind.i64.wrap (a - b)
theorem ad_ok {a b : Int} (h1 : -9223372036854775808 ≤ a + b) (h2 : a + b ≤ 9223372036854775807) : ad a b = a + b := wrapI h1 h2
theorem sb_ok {a b : Int} (h1 : -9223372036854775808 ≤ a - b) (h2 : a - b ≤ 9223372036854775807) : sb a b = a - b := wrapI h1 h2
def Pn.top (p : Pn) : Int := sb (ad (ad p.pages p.counters) p.nodes) 1
set_option maxRecDepth 100000 in
theorem top_any (w : World) (p : Pn) (v : Value) : Calls Try.prog 8 #[pval p v] w fun e w' => e = .returned (.int .i64 p.top) ∧ Grow w w' := by
  obtain ⟨wb, gp, hbx⟩ := box_pl w p v
  have HW := Hid.mk' hbx.ew
  have HGP := Hid.mk' hbx.eg
  have HG := Hid.mk' hbx.grow
  have c0 : wb.cell? ⟨gp, 0, none⟩ = some (.int .i64 p.pages) := hbx.blk.cell 0
  have c2 : wb.cell? ⟨gp, 2, none⟩ = some (.int .i64 p.counters) := hbx.blk.cell 2
  have c4 : wb.cell? ⟨gp, 4, none⟩ = some (.int .i64 p.nodes) := hbx.blk.cell 4
  unfold Pn.top
  generalize p.pages = a0 at c0 ⊢
  generalize p.counters = a2 at c2 ⊢
  generalize p.nodes = a4 at c4 ⊢
  unfold pval
  obtain ⟨N, hN⟩ : ∃ N, N = (pcells p v).toArray := ⟨_, rfl⟩
  rw [← hN] at HW ⊢
  obtain ⟨s1, h1⟩ : ∃ s1, s1 = ad a0 a2 := ⟨_, rfl⟩
  obtain ⟨s2, h2⟩ : ∃ s2, s2 = ad s1 a4 := ⟨_, rfl⟩
  obtain ⟨s3, h3⟩ : ∃ s3, s3 = sb s2 1 := ⟨_, rfl⟩
  rw [← h1, ← h2, ← h3]
  have e1 : IntKind.i64.wrap (a0 + a2) = s1 := h1.symm
  have e2 : IntKind.i64.wrap (s1 + a4) = s2 := h2.symm
  have e3 : IntKind.i64.wrap (s2 - 1) = s3 := h3.symm
  clear hbx hN h1 h2 h3
  go_enter Try.func8, Try.ntmps8
  go_upto_region 1 with fail
  rw [← HW.out, ← HGP.out]
  clear HW HGP
  go_wp2
  go_ret
  exact ⟨rfl, HG.out⟩
def Pn.has (p : Pn) (x : Int) : Bool := decide (0 ≤ x ∧ x < p.pages)
set_option maxRecDepth 100000 in
theorem there_any (w : World) (p : Pn) (v : Value) (x : Int) : Calls Try.prog 15 #[pval p v, .int .i64 x] w fun e w' => e = .returned (.bool (p.has x)) ∧ Grow w w' := by
  obtain ⟨wb, gp, hbx⟩ := box_pl w p v
  have HW := Hid.mk' hbx.ew
  have HGP := Hid.mk' hbx.eg
  have HG := Hid.mk' hbx.grow
  have c0 : wb.cell? ⟨gp, 0, none⟩ = some (.int .i64 p.pages) := hbx.blk.cell 0
  unfold Pn.has
  generalize p.pages = a0 at c0 ⊢
  unfold pval
  obtain ⟨N, hN⟩ : ∃ N, N = (pcells p v).toArray := ⟨_, rfl⟩
  rw [← hN] at HW ⊢
  clear hbx hN
  by_cases h0 : 0 ≤ x
  · by_cases h1 : x < a0
    · rw [decide_eq_true ⟨h0, h1⟩]
      go_enter Try.func15, Try.ntmps15
      go_upto_region 1 with fail
      rw [← HW.out, ← HGP.out]
      clear HW HGP
      go_wp2
      go_ret
      exact ⟨rfl, HG.out⟩
    · rw [decide_eq_false (fun h => h1 h.2)]
      go_enter Try.func15, Try.ntmps15
      go_upto_region 1 with fail
      rw [← HW.out, ← HGP.out]
      clear HW HGP
      go_wp2
      go_ret
      exact ⟨rfl, HG.out⟩
  · rw [decide_eq_false (fun h => h0 h.1)]
    go_enter Try.func15, Try.ntmps15
    go_upto_region 1 with fail
    rw [← HW.out, ← HGP.out]
    clear HW HGP
    go_wp2
    go_ret
    exact ⟨rfl, HG.out⟩
/-- A row of numbers, new since w. -/
structure Own (w w' : World) (v : Value) (ks : List Int) : Prop where
  row : w'.ownsRow 0 3 1 v ks.length (numv ks)
  new : ∀ k, v.ownBlock = some k → w.heap.size ≤ k
theorem Own.grow {w w' w2 : World} {v : Value} {ks : List Int} (h : Own w w' v ks) (k : Grow w' w2) : Own w w2 v ks := ⟨ownsRow_grow h.row k, h.new⟩
/-- A number put behind an own row. -/
theorem Own.more {w w3 w4 : World} {v v4 : Value} {F : List Int} {x : Int} (h : Own w w3 v F) (hap : Appd w3 w4 3 1 v v4 (F.length + 1) (numv F ++ numv [x])) (hg : Grow w w3) : Own w w4 v4 (F ++ [x]) ∧ Grow w w4 := by
  refine ⟨⟨?_, fun k hk => ?_⟩, hg.then hap.but (fun b hb e => by have := h.new b e; omega)⟩
  · rw [List.length_append, List.length_singleton, show numv (F ++ [x]) = numv F ++ numv [x] by simp [numv]]
    exact hap.own
  · rcases hap.at' with e | e
    · exact h.new k (by rw [← e]; exact hk)
    · rw [e] at hk
      have := Option.some.inj hk
      have := hg.size
      omega
set_option maxRecDepth 100000 in
theorem levels_any (w : World) (c : Nat) (h1 : 1 ≤ c) (h2 : c ≤ 256) : Calls Try.prog 13 #[.int .i64 (c : Int)] w fun e w' => ∃ v, e = .returned v ∧ Own w w' v (toI (lvs c)) ∧ Grow w w' := by
  have HB := Hid.mk' (begun_any w c 8 (by omega) (by decide) (by decide))
  obtain ⟨m0, hm⟩ : ∃ m0, m0 = bg c 8 := ⟨_, rfl⟩
  have hL : lvs c = lvN 3 m0 := by rw [hm]; rfl
  have hm1 : 1 ≤ m0 := by rw [hm]; exact bg_pos h1
  have hm2 : m0 ≤ 8 ^ 3 := by rw [hm]; exact bg8 (k := 3) (by omega)
  rw [← hm] at HB
  have HL := Hid.mk' hL
  have HM := Hid.mk' (And.intro hm1 hm2)
  obtain ⟨w1, hw1⟩ : ∃ w1, w1 = w.alloc (.cells #[.int .i64 (m0 : Int)] 3) := ⟨_, rfl⟩
  have HO1 : Hid (Own w w1 (.slice (some ⟨w.heap.size, 0, none⟩) 1 1) (toI [m0])) := by
    rw [hw1]
    exact ⟨(RowOf.lit (Fr := fun _ => True) (n := 1) (Blk.new (L := numv [(m0 : Int)]) rfl) rfl (by decide) trivial).own, fun k hk => by have h9 : some w.heap.size = some k := hk; have := Option.some.inj h9; omega⟩
  have HG1 : Hid (Grow w w1) := by rw [hw1]; exact (But.refl _ w).alloc _
  have HW1 := Hid.mk' hw1
  clear hm hL hm1 hm2 hw1
  go_enter Try.func13, Try.ntmps13
  go_wp2_with fail
  refine Calls.mono HB.out ?_
  rintro e w' ⟨rfl, hw⟩
  have h3 := hw.symm
  subst h3
  clear hw HB
  go_wp2_with (first
    | (refine wpList_runH rfl (exec_row1 (v := .int .i64 (m0 : Int)) Try.underlying22 infNum (by decide) (by decide) rfl rfl rfl) ?_)
    | fail)
  rw [← HW1.out]
  clear HW1
  go_loopw [3, 4] (fun mv rv wr => ∃ (m k : Nat) (A : List Nat) (r : Value), mv = .int .i64 (m : Int) ∧ r = rv ∧ k ≤ 3 ∧ 1 ≤ m ∧ m ≤ 8 ^ k ∧ A.length ≤ 3 - k ∧ lvs c = A ++ lvN k m ∧ Own w wr r (toI (A ++ [m])) ∧ Grow w wr) (fun mv _ _ => (intOf mv).toNat)
  case atStart => exact ⟨m0, 3, [], _, rfl, rfl, by decide, HM.out.1, HM.out.2, by decide, HL.out, HO1.out, HG1.out⟩
  case round =>
    clear HM HL HO1 HG1
    rename_i rv
    obtain ⟨m, k, A, r, rfl, rfl, hk, hm1, hm8, hA, hL, hO, hG⟩ := hrel
    have HO := Hid.mk' hO
    have HG := Hid.mk' hG
    have HL := Hid.mk' hL
    have HM := Hid.mk' (And.intro hm1 hm8)
    have HK := Hid.mk' hk
    have HA := Hid.mk' hA
    have hmu : m ≤ 512 := Nat.le_trans hm8 (show 8 ^ k ≤ 8 ^ 3 from Nat.pow_le_pow_right (by decide) hk)
    have hmi : (m : Int) ≤ 512 := by omega
    clear hO hG hL hm8 hk hA
    by_cases hgt : 1 < m
    · have hgti : (1 : Int) < (m : Int) := by omega
      obtain ⟨k, rfl⟩ : ∃ j, k = j + 1 := by
        cases k with
        | zero => have := HM.out.2; simp at this; omega
        | succ j => exact ⟨j, rfl⟩
      have HB := Hid.mk' (begun_any wr m 8 (by omega) (by decide) (by decide))
      obtain ⟨m2, hm2⟩ : ∃ m2, m2 = bg m 8 := ⟨_, rfl⟩
      rw [← hm2] at HB
      have HM2 : Hid (1 ≤ m2 ∧ m2 ≤ 8 ^ k ∧ m2 < m) := Hid.mk' (by rw [hm2]; exact ⟨bg_pos hm1, bg8 HM.out.2, by unfold bg; omega⟩)
      have HL2 : Hid (lvs c = (A ++ [m]) ++ lvN k m2) := Hid.mk' (by rw [HL.out, lvN_more (by omega), List.append_assoc, hm2]; rfl)
      obtain ⟨F, hF⟩ : ∃ F, F = toI (A ++ [m]) := ⟨_, rfl⟩
      rw [← hF] at HO
      have HFE := Hid.mk' hF
      have HFL : Hid (F.length ≤ 8) := Hid.mk' (by rw [hF, toI_len, List.length_append, List.length_singleton]; have := HA.out; omega)
      have HAL : Hid (Grow wr (wr.alloc (.cells #[.int .i64 (m2 : Int)] 3))) := (But.refl _ wr).alloc _
      have HBL : Hid (Blk (wr.alloc (.cells #[.int .i64 (m2 : Int)] 3)) wr.heap.size 3 (numv [(m2 : Int)])) := Blk.new (L := numv [(m2 : Int)]) rfl
      clear hF hm2 hm1 hmu HM HL
      go_wp2_with fail
      refine Calls.mono HB.out ?_
      rintro e w' ⟨rfl, hw⟩
      have h3 := hw.symm
      subst h3
      clear hw HB
      go_wp2_with (first
        | (refine wpList_runH rfl (exec_row1 (v := .int .i64 (m2 : Int)) Try.underlying22 infNum (by decide) (by decide) rfl rfl rfl) ?_)
        | (refine wpList_someH rfl (exec_append (v := r) (n := F.length) (xs := numv F) (news := numv [(m2 : Int)]) Try.underlying22 infNum rfl (by decide) rfl rfl (ownsRow_grow HO.out.row HAL.out) rfl rfl (fun j u hj => HBL.out.cells0 j u hj) (fun u hu => by rw [show u = .int .i64 (m2 : Int) by simpa [numv] using hu]; rfl) (by have := HFL.out; omega) (by decide)) ?_; intro v4 w4 hap)
        | fail)
      obtain ⟨h5, h6⟩ := (HO.out.grow HAL.out).more hap (HG.out.trans HAL.out)
      refine ⟨⟨m2, k, A ++ [m], v4, rfl, rfl, by have := HK.out; omega, HM2.out.1, HM2.out.2.1, by rw [List.length_append, List.length_singleton]; have := HA.out; have := HK.out; omega, HL2.out, ?_, h6⟩, by simp [intOf]; have := HM2.out.2.2; omega⟩
      rw [show toI ((A ++ [m]) ++ [m2]) = F ++ [(m2 : Int)] by rw [HFE.out]; unfold toI; rw [List.map_append]; rfl]
      exact h5
    · have hgti : ¬ (1 : Int) < (m : Int) := by omega
      have HE : Hid (lvs c = A ++ [m]) := Hid.mk' (by rw [HL.out, lvN_one (by omega)])
      go_wp2
      go_ret
      exact ⟨_, rfl, by rw [HE.out]; exact HO.out, HG.out⟩
end Go.Proofs.Ytidblaepklgkcab
