/- Spill slots of a law's own; the document's example of them. -/
import Derived.Test.YtehajgfjdmhdpaaSpGive
import Derived.Test.YtehajgfjdmhdpaaSpKeys
namespace Go.Proofs.Ytehajgfjdmhdpaa
open Go.RowKit Go.Maps

/-- The slots are new since w0. -/
structure Sa (w0 w : World) (gs gm n : Nat) (S : Sl) : Prop where
  m : SpM w gs gm n S
  grow : Grow w0 w
  ns : w0.heap.size ≤ gs
  nm : w0.heap.size ≤ gm
section
variable {w0 w w' : World} {gs gm n : Nat} {S S' : Sl} {p : Int}
theorem Sa.then (h : Sa w0 w gs gm n S) (k : Grow w w') : Sa w0 w' gs gm n S := ⟨h.m.grow k, h.grow.trans k, h.ns, h.nm⟩
theorem Sa.but {R : Nat → Prop} (h : Sa w0 w gs gm n S) (k : But R w w') (h1 : ¬ R gs) (h2 : ¬ R gm) (h3 : ∀ b, R b → w0.heap.size ≤ b) : Sa w0 w' gs gm n S := ⟨h.m.but k h1 h2, h.grow.then k (fun b hb e => by have := h3 b e; omega), h.ns, h.nm⟩
theorem Sa.to (h : Sa w0 w gs gm n S) (k : SpTo w gs gm n S' w') : Sa w0 w' gs gm n S' := ⟨k.m, h.grow.then k.but (fun i hi e => by have := h.nm; omega), h.ns, h.nm⟩
theorem Sa.lt (h : Sa w0 w gs gm n S) : gs < w.heap.size ∧ gm < w.heap.size := h.m.lt
theorem sa_new (w : World) (n : Nat) (h1 : 1 ≤ n) (h2 : n ≤ 256) : Calls Try.prog 7 #[.int .i64 (n : Int)] w fun e w' => ∃ gs gm, e = .returned (.tuple #[ptr gs, .int .i64 0]) ∧ Sa w w' gs gm n (List.replicate n none) := by
  refine (spnew_any w n h1 h2).mono ?_
  rintro e w' ⟨rfl, h1, h2⟩
  exact ⟨_, _, rfl, h1, h2, by omega, Nat.le_refl _⟩
theorem sa_give (h : Sa w0 w gs gm n S) (hp : i64 p) (x : En) : Calls Try.prog 14 #[ptr gs, .int .i64 p, evalE x] w fun e w' => e = .returned (.tuple #[.int .i64 (givI S p), .int .i64 (givE S p)]) ∧ Sa w0 w' gs gm n (gaveS S p x) ∧ But (· = gm) w w' := (spgive_any h.m hp x).mono (fun _ _ k => ⟨k.1, h.to k.2, k.2.but⟩)
theorem sa_free (h : Sa w0 w gs gm n S) (hp : i64 p) : Calls Try.prog 11 #[ptr gs, .int .i64 p] w fun e w' => e = .returned (.tuple #[]) ∧ Sa w0 w' gs gm n (freeS S p) ∧ But (· = gm) w w' := (spfree_any h.m hp).mono (fun _ _ k => ⟨k.1, h.to k.2, k.2.but⟩)
theorem sa_clear (h : Sa w0 w gs gm n S) : Calls Try.prog 13 #[ptr gs] w fun e w' => e = .returned (.tuple #[]) ∧ Sa w0 w' gs gm n (List.replicate n none) ∧ But (· = gm) w w' := (spclear_any h.m).mono (fun _ _ k => ⟨k.1, h.to k.2, k.2.but⟩)
/-- An entry is laid into a new variable. -/
theorem newEn (w : World) (x : En) : ∃ w2, (storeVar 33 ⟨w.heap.size, 0, none⟩ (evalE x)).run Try.prog (w.alloc (.cells #[.int .u32 0, .int .u32 0, .int .u64 0] 33)) = .ok () w2 ∧ Blk w2 w.heap.size 33 (ecells x) ∧ Grow w w2 := by
  obtain ⟨w2, q1, q2, q3⟩ := boxEn (w := w.alloc (.cells #[.int .u32 0, .int .u32 0, .int .u64 0] 33)) (g := w.heap.size) (L := [.int .u32 0, .int .u32 0, .int .u64 0]) rfl (Blk.new rfl) x
  exact ⟨w2, q1, q2, ((But.refl (fun _ => False) w).alloc _).then q3 (fun b hb e => by omega)⟩
end
def aS1 : Sl := gaveS (List.replicate 2 none) 7 ⟨1, 0, 0⟩
def aS2 : Sl := gaveS aS1 3 ⟨2, 0, 0⟩
def aS3 : Sl := gaveS aS2 7 ⟨3, 0, 0⟩
def aS4 : Sl := gaveS aS3 1 ⟨0, 0, 0⟩
theorem as_giv : givI (List.replicate 2 none) 7 = 0 ∧ givI aS1 3 = 1 ∧ givI aS2 7 = 0 ∧ givE aS3 1 = 11 := by decide +kernel
theorem as_of : ofI aS4 7 = 0 ∧ ofB aS4 7 = true ∧ (ofX aS4 7).e = 3 := by decide +kernel
set_option maxRecDepth 100000 in
set_option maxHeartbeats 1000000 in
theorem awake_any (w : World) : Calls Try.prog 9 #[] w fun e w' => e = .returned (.bool true) ∧ Grow w w' := by
  have HN := Hid.mk' (sa_new w 2 (by decide) (by decide))
  obtain ⟨c1, c2, c3, c4⟩ := as_giv
  obtain ⟨n1, n2, n3⟩ := as_of
  have C1 := Hid.mk' c1
  have C2 := Hid.mk' c2
  have C3 := Hid.mk' c3
  have C4 := Hid.mk' c4
  have N1 := Hid.mk' n1
  have N2 := Hid.mk' n2
  have N3 := Hid.mk' n3
  clear c1 c2 c3 c4 n1 n2 n3
  go_enter Try.func9, Try.ntmps9
  go_wp2_with fail
  refine Calls.mono HN.out ?_
  rintro e w1 ⟨gs, gm, rfl, h1⟩
  have h2 := sa_give (p := 7) h1 (by unfold i64; omega) ⟨1, 0, 0⟩
  rw [C1.out] at h2
  have H2 := Hid.mk' h2
  clear h1 h2 HN
  go_wp2_with fail
  refine Calls.mono H2.out ?_
  rintro e w2 ⟨rfl, h1, -⟩
  have h2 := sa_give (p := 3) h1 (by unfold i64; omega) ⟨2, 0, 0⟩
  rw [show givI (gaveS (List.replicate 2 none) 7 ⟨1, 0, 0⟩) 3 = 1 from C2.out] at h2
  have H3 := Hid.mk' h2
  clear h1 h2 H2
  go_wp2_with fail
  refine Calls.mono H3.out ?_
  rintro e w3 ⟨rfl, h1, -⟩
  have h1 : Sa _ _ _ _ _ aS2 := h1
  have h2 := sa_give (p := 7) h1 (by unfold i64; omega) ⟨3, 0, 0⟩
  rw [C3.out] at h2
  have H4 := Hid.mk' h2
  clear h1 h2 H3
  go_wp2_with fail
  refine Calls.mono H4.out ?_
  rintro e w4 ⟨rfl, h1, -⟩
  have h1 : Sa _ _ _ _ _ aS3 := h1
  have h2 := sa_give (p := 1) h1 (by unfold i64; omega) ⟨0, 0, 0⟩
  rw [C4.out] at h2
  have H5 := Hid.mk' h2
  clear h1 h2 H4
  go_wp2_with fail
  refine Calls.mono H5.out ?_
  rintro e w5 ⟨rfl, h1, -⟩
  have h1 : Sa _ _ _ _ _ aS4 := h1
  have h2 := spof_any (p := 7) h1.m (by unfold i64; omega)
  rw [N1.out, N2.out] at h2
  have HSA := Hid.mk' h1
  have H6 := Hid.mk' h2
  clear h1 h2 H5
  go_wp2_with fail
  refine Calls.mono H6.out ?_
  rintro e w6 ⟨rfl, k6⟩
  obtain ⟨w7, hs, hb, hk⟩ := newEn w6 (ofX aS4 7)
  have HS := Hid.mk' hs
  have HG : Hid (Grow w w7) := (HSA.out.grow.trans k6).trans hk
  have d0 : w7.cell? ⟨w6.heap.size, 0, none⟩ = some (.int .u32 3) := by
    rw [hb.cell]
    show some (Value.int .u32 ((ofX aS4 7).e : Int)) = _
    rw [N3.out]
    rfl
  generalize ofX aS4 7 = X at *
  clear k6 hs hb hk H6 HSA
  go_wp2_with (first
    | (refine wpList_runH rfl (exec_allocF rfl (zeroE w6)) ?_)
    | (refine wpList_skipH rfl (exec_stF (v := evalE X) rfl rfl rfl HS.out) ?_)
    | fail)
  go_ret
  exact ⟨rfl, HG.out⟩
end Go.Proofs.Ytehajgfjdmhdpaa
