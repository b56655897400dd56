/- count: the document's example. -/
import Derived.Test.YtffiphdbjohilaaCtGet
namespace Go.Proofs.Ytffiphdbjohilaa
open Go.ChangeShapes Go.WideShapes Go.ChangeAt Go.RowKit Go.Deep

set_option maxRecDepth 100000 in
theorem ex_at : (pkN (fun _ => ⟨1, 2, 3⟩) 1)[3]? = some 1 ∧ (pkN (fun _ => ⟨1, 2, 3⟩) 1)[7]? = some 2 ∧ (pkN (fun _ => ⟨1, 2, 3⟩) 1)[15]? = some 3 := by decide +kernel
theorem u8s_at (zs : List Nat) (i z : Nat) (h : zs[i]? = some z) : (u8s zs)[i]? = some (.int .u8 (z : Int)) := by
  simp [u8s, h]
set_option maxRecDepth 100000 in
theorem cawake_any (w : World) : Calls Try.prog 11 #[] w fun e w' => e = .returned (.bool true) ∧ But (fun _ => False) w w' := by
  obtain ⟨W1, hW1⟩ : ∃ W1, W1 = w.alloc (.cells #[.int .u32 1, .int .u32 2, .int .u64 3] 39) := ⟨_, rfl⟩
  have HT1 : Hid (But (fun _ => False) w W1) := by rw [hW1]; exact (But.refl _ _).alloc _
  have hb1 : Blk W1 w.heap.size 39 (ecells ⟨1, 2, 3⟩) := by rw [hW1]; exact Blk.new rfl
  have hens : Ens W1 (.slice (some ⟨w.heap.size, 0, none⟩) 1 1) 1 (fun _ => ⟨1, 2, 3⟩) := by
    refine ⟨by omega, .inr ⟨by omega, _, 0, 1, rfl, Nat.le_refl _, hb1.lt, fun i hi => ⟨show En.ok ⟨1, 2, 3⟩ from ⟨by decide, by decide, by decide⟩, fun c u hu => ?_⟩⟩⟩
    obtain rfl : i = 0 := by omega
    rw [hb1.cell]
    simpa using hu
  have HPK := Hid.mk' (pack_any hens (by decide))
  have HW := Hid.mk' hW1
  have hs1 : w.heap.size < W1.heap.size := by rw [hW1]; simp
  clear hW1 hb1 hens
  go_enter Try.func11, Try.ntmps11
  go_wp2_with fail
  rw [← HW.out]
  refine Calls.mono HPK.out ?_
  rintro e w2 ⟨v', rfl, ⟨⟨g, rfl, hg, hb⟩, -, -, hbut⟩⟩
  have c3 : w2.cell? ⟨g, 3, none⟩ = some (.int .u8 1) := by rw [hb.cell]; exact u8s_at _ _ _ ex_at.1
  have c7 : w2.cell? ⟨g, 7, none⟩ = some (.int .u8 2) := by rw [hb.cell]; exact u8s_at _ _ _ ex_at.2.1
  have c15 : w2.cell? ⟨g, 15, none⟩ = some (.int .u8 3) := by rw [hb.cell]; exact u8s_at _ _ _ ex_at.2.2
  have HB := Hid.mk' hbut
  clear hb hbut
  go_wp2
  go_ret
  exact ⟨rfl, HT1.out.trans HB.out⟩
end Go.Proofs.Ytffiphdbjohilaa
