/- frames: New. -/
import Derived.Test.YtmlklmhochihbaaFrFreed
namespace Go.Proofs.Ytmlklmhochihbaa
open Go.RowKit Go.Maps

theorem newf_arg (w : World) (x : Int) (hx : ¬ (1 ≤ x ∧ x ≤ 1024)) :
    Calls Try.prog 14 #[.int .i64 x] w fun e w' => e = .returned (.tuple #[.pointer none, .int .i64 1]) ∧ w' = w := by
  by_cases h1 : x < 1
  · go_enter Try.func14, Try.ntmps14
    go_wp2
    exact bodyPost_ret (results_tmp2 rfl _ _ _) rfl ⟨rfl, rfl⟩
  · have h2 : 1024 < x := by omega
    clear hx
    go_enter Try.func14, Try.ntmps14
    go_wp2
    exact bodyPost_ret (results_tmp2 rfl _ _ _) rfl ⟨rfl, rfl⟩
theorem mkM (w : World) (t : TypeId) : (Instr.makeMap t none).run Try.prog w = .ok (.map (some w.heap.size)) (w.alloc (.map #[] 0)) := by
  simp [Instr.makeMap]
def ownN (g : Nat) : Owner := fun b => if b = g then .pic else if b = g + 1 then .imr else if b = g + 2 then .sto else if b = g + 3 then .map else if b = g + 4 then .wri else if b = g + 5 then .dev else .none
theorem ownN_ge {g b : Nat} (h : ownN g b ≠ .none) : g ≤ b ∧ b < g + 6 := by
  unfold ownN at h
  repeat' split at h
  all_goals first
    | omega
    | exact absurd rfl h
theorem Fm.fresh {w w1 : World} {g : Nat} {n : Nat} (hg : g = w.heap.size) (h : HtM w1 (g + 1) g 16 0 tnone) (k : Grow w w1) (hs : w1.heap.size = g + 2) (h1 : 1 ≤ n) (h2 : n ≤ 1024) {W : World} (hW : W = (((w1.alloc (.map #[] 0)).alloc (.map #[] 0)).alloc (.map #[] 0)).alloc (.cells (tcl n n (g + 2) (g + 3) (g + 4) (g + 1)).toArray 85)) :
    Ft W (ownN g) (g + 5) (St.new n) ∧ Grow w W := by
  have a1 : Grow w1 (w1.alloc (.map #[] 0)) := (But.refl _ _).alloc _
  have s1 : (w1.alloc (.map #[] 0)).heap.size = g + 3 := by simp [hs]
  have m1 : MapOf 3 (w1.alloc (.map #[] 0)) (g + 2) (fun p : Int × Int => iv p.1) (fun p => iv p.2) [] := MapOf.new _ hs _ _
  generalize w1.alloc (.map #[] 0) = w2 at *
  have a2 : Grow w2 (w2.alloc (.map #[] 0)) := (But.refl _ _).alloc _
  have s2 : (w2.alloc (.map #[] 0)).heap.size = g + 4 := by simp [s1]
  have m2 : MapOf 3 (w2.alloc (.map #[] 0)) (g + 3) iv (fun _ => ptr 0) [] := MapOf.new _ s1 _ _
  generalize w2.alloc (.map #[] 0) = w3 at *
  have a3 : Grow w3 (w3.alloc (.map #[] 0)) := (But.refl _ _).alloc _
  have s3 : (w3.alloc (.map #[] 0)).heap.size = g + 5 := by simp [s2]
  have m3 : MapOf 96 (w3.alloc (.map #[] 0)) (g + 4) pinV (fun _ => unitV) [] := MapOf.new _ s2 _ _
  generalize w3.alloc (.map #[] 0) = w4 at *
  have a4 : Grow w4 W := by rw [hW]; exact (But.refl _ _).alloc _
  have b4 : Blk W (g + 5) 85 (tcl n n (g + 2) (g + 3) (g + 4) (g + 1)) := by rw [hW]; exact Blk.new s3
  have s4 : W.heap.size = g + 6 := by rw [hW]; simp [s3]
  have kk := a1.trans (a2.trans (a3.trans a4))
  have hl : (St.new n).left = (n : Int) := by show (n : Int) - sums [] = n; rw [sums_nil]; omega
  refine ⟨⟨g + 2, g + 3, g + 4, g + 1, g, fun _ => 0, [], ⟨?_, m1.grow (a2.trans (a3.trans a4)), m2.grow (a3.trans a4), m3.grow a4, .nil, fun _ => Iff.rfl, fun e he => absurd he List.not_mem_nil, h.grow kk, ?_, ?_, ?_, ?_, ?_, ?_, fun e he => absurd he List.not_mem_nil, Sok.new h1 h2, Nat.zero_le _, fun b hb => ?_⟩⟩, k.trans kk⟩
  · rw [hl]; exact b4
  · unfold ownN; rw [if_neg (by omega), if_neg (by omega), if_neg (by omega), if_neg (by omega), if_neg (by omega), if_pos rfl]
  · unfold ownN; rw [if_neg (by omega), if_neg (by omega), if_pos rfl]
  · unfold ownN; rw [if_neg (by omega), if_neg (by omega), if_neg (by omega), if_pos rfl]
  · unfold ownN; rw [if_neg (by omega), if_neg (by omega), if_neg (by omega), if_neg (by omega), if_pos rfl]
  · unfold ownN; rw [if_neg (by omega), if_pos rfl]
  · unfold ownN; rw [if_pos rfl]
  · cases ho : ownN g b with
    | none => rfl
    | _ => have := ownN_ge (g := g) (b := b) (by rw [ho]; exact fun e => nomatch e); omega
/-- What New makes. -/
structure NewF (w : World) (n : Nat) (gt : Nat) (own : Owner) (w' : World) : Prop where
  ft : Ft w' own gt (St.new n)
  new : ∀ b, own b ≠ .none → w.heap.size ≤ b
  grow : Grow w w'
set_option maxRecDepth 100000 in
theorem newheat (w : World) : Calls Try.prog 43 #[.int .i64 16] w fun e w' => e = .returned (.tuple #[.pointer (some ⟨w.heap.size + 1, 0, none⟩), .int .i64 0]) ∧ HtM w' (w.heap.size + 1) w.heap.size 16 0 tnone ∧ Grow w w' ∧ w'.heap.size = w.heap.size + 2 := by
  have HMM := Hid.mk' (mk_mapH w)
  obtain ⟨N, hN⟩ : ∃ N : Int, N = 16 := ⟨_, rfl⟩
  obtain ⟨g, hg⟩ : ∃ g, g = w.heap.size := ⟨_, rfl⟩
  obtain ⟨w1, hw1⟩ : ∃ w1, w1 = w.alloc (.map #[] 0) := ⟨_, rfl⟩
  rw [← hg, ← hw1] at HMM
  have s1 : w1.heap.size = g + 1 := by rw [hw1, hg]; simp
  have k1 : Grow w w1 := by rw [hw1]; exact (But.refl _ w).alloc _
  have m1 : Mq Try.prog 3 w1 g [] := by rw [hw1]; exact Mq.new g hg.symm
  have HF : Hid (HtM (w1.alloc (.cells #[.int .i64 N, .int .i64 0, .map (some g)] 110)) (g + 1) g 16 0 tnone ∧ Grow w (w1.alloc (.cells #[.int .i64 N, .int .i64 0, .map (some g)] 110)) ∧ (w1.alloc (.cells #[.int .i64 N, .int .i64 0, .map (some g)] 110)).heap.size = g + 2) := by
    have k2 : Grow w1 (w1.alloc (.cells #[.int .i64 N, .int .i64 0, .map (some g)] 110)) := (But.refl _ w1).alloc _
    refine ⟨⟨?_, ⟨[], m1.but k2 (fun h => h), fun p hp => absurd hp List.not_mem_nil, fun K b t e => by cases e⟩, by decide, by decide, by omega, Tok.none 0⟩, k1.trans k2, by simp [s1]⟩
    rw [hN]
    exact Blk.new (L := [.int .i64 (16 : Int), .int .i64 0, .map (some g)]) s1
  have HS1 := Hid.mk' s1
  have i1 : ¬ (N < 1) := by omega
  have i2 : ¬ (1000 < N) := by omega
  rw [← hg, ← hN]
  clear hN s1 k1 m1 hw1 hg
  go_enter Try.func43, Try.ntmps43
  go_wp2_with (first
    | (refine wpList_runH rfl (exec_mkMap rfl HMM.out) ?_)
    | fail)
  rw [HS1.out]
  exact bodyPost_ret (results_tmp2 rfl _ _ _) rfl ⟨rfl, HF.out⟩
set_option maxRecDepth 100000 in
theorem newf_any (w : World) (n : Nat) (h1 : 1 ≤ n) (h2 : n ≤ 1024) :
    Calls Try.prog 14 #[.int .i64 (n : Int)] w fun e w' => e = .returned (.tuple #[ptr (w.heap.size + 5), .int .i64 0]) ∧ NewF w n (w.heap.size + 5) (ownN w.heap.size) w' := by
  obtain ⟨N, hN⟩ : ∃ N : Int, N = (n : Int) := ⟨_, rfl⟩
  have HH := Hid.mk' (newheat w)
  obtain ⟨g, hg⟩ : ∃ g, g = w.heap.size := ⟨_, rfl⟩
  have HF : Hid (∀ w1, HtM w1 (g + 1) g 16 0 tnone → Grow w w1 → w1.heap.size = g + 2 → NewF w n (g + 5) (ownN g) ((((w1.alloc (.map #[] 0)).alloc (.map #[] 0)).alloc (.map #[] 0)).alloc (.cells #[.int .i64 N, .int .i64 N, .map (some (g + 2)), .map (some (g + 3)), .map (some (g + 4)), ptr (g + 1)] 85))) := fun w1 a b c => by
    obtain ⟨f1, f2⟩ := Fm.fresh hg a b c h1 h2 rfl
    rw [hN]
    exact ⟨f1, fun b hb => by have := ownN_ge hb; omega, f2⟩
  have i1 : ¬ (N < 1) := by omega
  have i2 : ¬ (1024 < N) := by omega
  rw [← hN, ← hg]
  rw [← hg] at HH
  clear hN h1 h2 hg
  go_enter Try.func14, Try.ntmps14
  go_wp2_with fail
  refine Calls.mono HH.out ?_
  rintro e w1 ⟨rfl, a, b, c⟩
  have HW := Hid.mk' (HF.out w1 a b c)
  have HC := Hid.mk' c
  have s1 : (w1.alloc (.map #[] 0)).heap.size = g + 3 := by simp [c]
  have s2 : ((w1.alloc (.map #[] 0)).alloc (.map #[] 0)).heap.size = g + 4 := by simp [c]
  have R1 := Hid.mk' (mkM w1 81)
  have R2 := Hid.mk' (mkM (w1.alloc (.map #[] 0)) 82)
  have R3 := Hid.mk' (mkM ((w1.alloc (.map #[] 0)).alloc (.map #[] 0)) 83)
  rw [c] at R1
  rw [s1] at R2
  rw [s2] at R3
  clear a b c s1 s2
  go_wp2_with (first
    | (refine wpList_runH rfl (exec_mkMap rfl R1.out) ?_)
    | (refine wpList_runH rfl (exec_mkMap rfl R2.out) ?_)
    | (refine wpList_runH rfl (exec_mkMap rfl R3.out) ?_)
    | fail)
  rw [HC.out]
  exact bodyPost_ret (results_tmp2 rfl _ _ _) rfl ⟨rfl, HW.out⟩
end Go.Proofs.Ytmlklmhochihbaa
