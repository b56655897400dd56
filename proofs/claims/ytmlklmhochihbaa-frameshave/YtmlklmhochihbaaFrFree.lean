/- frames: Free: its closure, and what the library makes of it. -/
import Derived.Test.YtmlklmhochihbaaFrPin
namespace Go.Proofs.Ytmlklmhochihbaa
open Go.RowKit Go.Maps

section
variable {w w' : World} {own own' : Owner} {gt gr gf gp gh gm : Nat} {fb : Int → Nat} {PL : List (Int × Int)} {s s' : St} {R : Nat → Prop}
set_option maxRecDepth 100000 in
theorem other_any {p : Int × Int} {t : Int} {b3 : Nat} {x : Value} (hne : p.1 ≠ t) (h3 : Blk w b3 3 [.int .i64 t]) :
    Calls Try.prog 51 #[pinV p, unitV, ptr b3, x] w fun e w' => e = .returned (.bool false) ∧ Grow w w' := by
  obtain ⟨a, b⟩ := p
  simp only at hne
  have hq : (a != t) = true := by simpa using hne
  have HG : Hid (Grow w ((w.alloc (.cells #[.int .i64 a, .int .i64 b] 96)).alloc (.cells #[] 97))) := ((But.refl _ w).alloc _).alloc _
  have hb : Blk ((w.alloc (.cells #[.int .i64 a, .int .i64 b] 96)).alloc (.cells #[] 97)) w.heap.size 96 [.int .i64 a, .int .i64 b] := (Blk.new (L := [.int .i64 a, .int .i64 b]) rfl).but ((But.refl (fun _ => False) _).alloc _) (fun h => h)
  have c0 : ((w.alloc (.cells #[.int .i64 a, .int .i64 b] 96)).alloc (.cells #[] 97)).cell? ⟨w.heap.size, 0, none⟩ = some (.int .i64 a) := hb.cell 0
  have c1 : ((w.alloc (.cells #[.int .i64 a, .int .i64 b] 96)).alloc (.cells #[] 97)).cell? ⟨b3, 0, none⟩ = some (.int .i64 t) := (h3.but HG.out (fun h => h)).cell 0
  clear hb h3 hne
  go_enter Try.func51, Try.ntmps51
  go_wp2
  go_ret
  exact ⟨rfl, HG.out⟩
set_option maxRecDepth 100000 in
set_option maxHeartbeats 1000000 in
theorem mine_any {p : Int × Int} {t : Int} {b2 b3 g c : Nat} {v : Value} {m : Bool} (he : p.1 = t) (h2 : Blk w b2 25 [ptr gt]) (h3 : Blk w b3 3 [.int .i64 t]) (ht : Blk w gt 85 (tcl s.most s.left gr gf gp gh))
    (hlk : ∀ w1, Grow w w1 → (Instr.lookup 82 (.map (some gf)) (.int .i64 p.2) false).run Try.prog w1 = .ok (ptr g) w1) (hb : Blk w g 89 (fcl v m (c + 1))) (hc : c ≤ 100000) :
    Calls Try.prog 51 #[pinV p, unitV, ptr b3, ptr b2] w fun e w' => e = .returned (.bool true) ∧ Blk w' g 89 (fcl v m c) ∧ But (· = g) w w' := by
  obtain ⟨a, b⟩ := p
  simp only at he hlk
  subst he
  have HG : Hid (Grow w ((w.alloc (.cells #[.int .i64 a, .int .i64 b] 96)).alloc (.cells #[] 97))) := ((But.refl _ w).alloc _).alloc _
  have hbq : Blk ((w.alloc (.cells #[.int .i64 a, .int .i64 b] 96)).alloc (.cells #[] 97)) w.heap.size 96 [.int .i64 a, .int .i64 b] := (Blk.new (L := [.int .i64 a, .int .i64 b]) rfl).but ((But.refl (fun _ => False) _).alloc _) (fun h => h)
  have HBQ := Hid.mk' hbq
  have c0 : ((w.alloc (.cells #[.int .i64 a, .int .i64 b] 96)).alloc (.cells #[] 97)).cell? ⟨w.heap.size, 0, none⟩ = some (.int .i64 a) := hbq.cell 0
  have c1 : ((w.alloc (.cells #[.int .i64 a, .int .i64 b] 96)).alloc (.cells #[] 97)).cell? ⟨b3, 0, none⟩ = some (.int .i64 a) := (h3.but HG.out (fun h => h)).cell 0
  have hq : (a != a) = false := by simp
  have H2 := Hid.mk' h2
  have HT := Hid.mk' ht
  have HB := Hid.mk' hb
  have HLK := Hid.mk' hlk
  obtain ⟨q, hqq⟩ : ∃ q, q = w.heap.size := ⟨_, rfl⟩
  have HQQ := Hid.mk' hqq
  clear hbq h2 h3 ht hlk hb hqq
  go_enter Try.func51, Try.ntmps51
  go_upto_region 3 with fail
  rw [← HQQ.out] at HBQ ⊢
  clear c0 c1 hq HQQ
  generalize (w.alloc (.cells #[.int .i64 a, .int .i64 b] 96)).alloc (.cells #[] 97) = w1 at *
  refine region_chain [([0, 1, 2, 3, 4, 5, 6, 7, 8, 9, 10, 11, 12], 13)] [] (Grow w1) (Grow w1) (by kernel_rfl) (by kernel_rfl) (fun _ _ h k => h.trans k) (fun _ h => h) ((But.refl _ w1).drew) ?_
  intro ι hne X hX
  have d2 : ∀ x, (X x).cell? ⟨b2, 0, none⟩ = some (ptr gt) := fun x => (H2.out.but (HG.out.trans (hX x)) (fun h => h)).cell 0
  have d3 : ∀ x, (X x).cell? ⟨gt, 3, none⟩ = some (.map (some gf)) := fun x => (HT.out.but (HG.out.trans (hX x)) (fun h => h)).cell 3
  have dq : ∀ x, (X x).cell? ⟨q, 1, none⟩ = some (.int .i64 b) := fun x => (HBQ.out.but (hX x) (fun h => h)).cell 1
  have dg : ∀ x, (X x).cell? ⟨g, 2, none⟩ = some (.int .i64 ((c + 1 : Nat) : Int)) := fun x => (HB.out.but (HG.out.trans (hX x)) (fun h => h)).cell 2
  have hw1 : IntKind.i64.wrap (c : Int) = (c : Int) := wrapN _ (by omega)
  have e1 : ((c + 1 : Nat) : Int) - 1 = (c : Int) := by push_cast; omega
  generalize c + 1 = c1 at *
  iterate 6 (refine still_step rfl (fun K hK => ?_); go_simp; refine hK _ ?_; clear hK K)
  refine still_val rfl (ptr g) rfl (fun z => exec_lookup rfl rfl rfl (HLK.out _ (HG.out.trans (hX z)))) ?_
  intro K hK; go_simp; refine hK _ ?_; clear hK K
  iterate 6 (refine still_step rfl (fun K hK => ?_); go_simp; refine hK _ ?_; clear hK K)
  refine still_nil ?_
  clear d2 d3 dq dg hX hne X ι
  refine turn_run rfl rfl (fun _ w' => Blk w' g 89 (fcl v m c) ∧ But (· = g) w w') (fun _ _ => True) (fun _ _ _ h k => ⟨h.1.but k (fun h => h), h.2.trans (k.mono (fun _ _ h => h.elim))⟩) (fun _ _ _ => trivial) (.inl (by kernel_rfl)) ?_ ?_
  · intro w4 h4
    have hb4 := HB.out.but (HG.out.trans h4) (fun h => h)
    refine turn_store (by kernel_rfl) rfl rfl rfl rfl hb4 (by simp) ?_
    exact ⟨hb4.set 2 _, ((HG.out.trans h4).mono (fun _ _ h => h.elim)).trans (But.set1 _ _ _ _)⟩
  rintro v5 - Y hY
  go_simp
  refine hY _ ?_
  clear hY Y
  intro ι hne X hX
  refine still_nil ?_
  clear hX hne
  intro w6 hw6
  have HW6 := Hid.mk' hw6
  clear hw6
  go_wp2
  go_ret
  exact ⟨rfl, HW6.out⟩
end
end Go.Proofs.Ytmlklmhochihbaa
