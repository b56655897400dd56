/- ShaKnown. -/
import Derived.Test.YtmilmaljahjgeaaDoorShaEq
import Derived.Test.YtmilmaljahjgeaaDoorShaAwake
import Derived.BigRegion
namespace Go.Proofs.YtmilmaljahjgeaaDoor
open Go.ChangeShapes Go.WideShapes Go.ChangeAt Go.RowKit

attribute [-go_sem] loadCells

theorem Ps.nil (w : World) : Ps w (.slice none 0 0) [] := .inl ⟨rfl, .inl rfl⟩
theorem load_blk {w : World} {g : Nat} {D : List Nat} (h : Blk w g 25 (u8s D)) (hD : D.length = 32) : (loadCells ⟨g, 0, none⟩ 32).run Tryd.prog w = .ok (u8s D).toArray w := by
  have hl := run_loadCells_list (P := Tryd.prog) w ⟨g, 0, none⟩ (u8s D) (fun j v hv => by
    have hadd : (⟨g, 0, none⟩ : Addr).add j = ⟨g, j, none⟩ := by unfold Addr.add; split <;> simp_all
    rw [hadd, h.cell]; exact hv)
  rw [show (u8s D).length = 32 by simp [u8s, hD]] at hl
  exact hl

set_option maxRecDepth 100000 in
set_option maxHeartbeats 4000000 in
theorem shaKnown_walk (w : World) (hk : Kw w) (hh : Hw w) :
    Calls Tryd.prog 7 #[] w fun e w' => e = .returned (.bool true) ∧ Below w.heap.size w w' := by
  have hz2 : ∀ w : World, (zeroValue 25).run Tryd.prog w = .ok (.agg (u8s (List.replicate 32 0)).toArray) w := fun _ => by kernel_rfl
  obtain ⟨O, hO⟩ : ∃ O, O = (u8s (List.replicate 32 0)).toArray := ⟨_, rfl⟩
  rw [← hO] at hz2
  have HO := Hid.mk' hO
  clear hO
  have b1 : But (fun _ => False) w (w.alloc (.cells #[.int .u8 1] 5)) := (But.refl _ w).alloc _
  have HOF := Hid.mk' (of_any (Ps.nil (w.alloc (.cells #[.int .u8 1] 5))) (hk.but b1 (fun h => h)) (hh.but b1 (fun h => h)) (by decide) (by decide))
  have HB1 := Hid.mk' b1
  have HK := Hid.mk' hk
  have HH := Hid.mk' hh
  obtain ⟨D, hD⟩ : ∃ D, D = digest [] := ⟨_, rfl⟩
  rw [show ([] : List (List Nat)).flatten = [] from rfl, ← hD] at HOF
  have HDL : Hid (D.length = 32) := by show _ = _; rw [hD]; exact digest_len _
  have HCE : Hid (∀ (w5 : World) (g : Nat), Blk w5 g 25 (u8s D) → w5.cell? ⟨g, 0, none⟩ = some (.int .u8 227) ∧ w5.cell? ⟨g, 1, none⟩ = some (.int .u8 176) ∧ w5.cell? ⟨g, 30, none⟩ = some (.int .u8 184) ∧ w5.cell? ⟨g, 31, none⟩ = some (.int .u8 85) ∧ (loadCells ⟨g, 0, none⟩ 32).run Tryd.prog w5 = .ok (u8s D).toArray w5 ∧ (loadCells ⟨g, 0, none⟩ 32).run Tryd.prog w5.drew = .ok (u8s D).toArray w5.drew) := by
    intro w5 g h
    refine ⟨?_, ?_, ?_, ?_, load_blk h HDL.out, load_blk (w := w5.drew) h HDL.out⟩ <;> rw [h.cell, hD, digest_nil] <;> rfl
  have HSU : Hid (∀ (wb wx : World) (po : Option Addr), But (fun _ => False) w wb → But (fun _ => False) wb wx → ((po = none) ∨ ∃ g, po = some ⟨g, 0, none⟩ ∧ Sm wx g []) → Calls Tryd.prog 16 #[.pointer po] wx fun e w' => e = .returned (.agg (u8s D).toArray) ∧ But (fun _ => False) wb w') := by
    intro wb wx po h0 h1 h2
    have h3 := h0.trans h1
    refine (sum_any (all := []) (by rcases h2 with h | h; exact .inl ⟨h, rfl⟩; exact .inr h) (HK.out.but h3 (fun h => h)) (HH.out.but h3 (fun h => h)) (by decide)).mono ?_
    rintro e w' ⟨rfl, h4⟩
    exact ⟨by rw [hD], h1.trans h4⟩
  have HAW : Hid (∀ (wb wx : World), But (fun _ => False) w wb → But (fun _ => False) wb wx → Calls Tryd.prog 8 #[] wx fun e w' => e = .returned (.bool true) ∧ But (fun _ => False) wb w') := by
    intro wb wx h0 h1
    have h3 := h0.trans h1
    refine (awake_any (HK.out.but h3 (fun h => h)) (HH.out.but h3 (fun h => h))).mono ?_
    rintro e w' ⟨rfl, h4⟩
    exact ⟨rfl, h1.trans h4⟩
  have heq := eql_same D HDL.out
  obtain ⟨C, hC⟩ : ∃ C, C = (u8s D).toArray := ⟨_, rfl⟩
  rw [← hC] at heq HCE HSU HOF
  have HC := Hid.mk' hC
  clear hD hC b1 hk hh
  go_enter Tryd.func7, Tryd.ntmps7
  go_wp2_with (first
    | (go_at_call 17; refine Calls.mono write_nil ?_; rintro e w1 ⟨rfl, hw1⟩; have hw2 := hw1.symm; subst hw2)
    | (go_at_call 10; refine Calls.mono HOF.out ?_; rintro e w3 ⟨rfl, hb3⟩)
    | (refine wpList_store_digest rfl _ _ rfl w3.heap.size D HDL.out rfl (by rw [← HC.out]; rfl) (u8s (List.replicate 32 0)) rfl (by rw [HO.out]; exact Blk.new rfl) ?_; intro w5 hb5 hbut5))
  have HB5 : Hid (But (fun _ => False) w w5) := (HB1.out.trans hb3).alloc _ |>.then hbut5 (fun i hi e => by have := (HB1.out.trans hb3).size; omega)
  have HBE := Hid.mk' hb5
  obtain ⟨c0, c1, c2, c3, cl0, cl1⟩ := HCE.out w5 _ hb5
  generalize w3.heap.size = ge at *
  simp only [Act.put]
  have HR5 : Hid (But (fun _ => False) w5 w5.drew) := (But.refl _ w5).drew
  clear hz2 hbut5 hb5
  go_region_with (first
    | (go_at_call 8; refine Calls.mono (HAW.out w5 _ HB5.out HR5.out) ?_; rintro e w6 ⟨rfl, hb6⟩; obtain ⟨d0, d1, d2, d3, dl0, dl1⟩ := HCE.out w6 _ (HBE.out.but hb6 (fun h => h)))
    | (go_at_call 16; refine Calls.mono (HSU.out w5 _ _ HB5.out hb6 (.inl rfl)) ?_; rintro e w7 ⟨rfl, hb7⟩; obtain ⟨e0, e1, e2, e3, el0, el1⟩ := HCE.out w7 _ (HBE.out.but hb7 (fun h => h)))
    | (go_at_call 18; refine Calls.mono len_nil ?_; rintro e wl ⟨rfl, hwl⟩; have hwl2 := hwl.symm; subst hwl2)
    | (go_at_call 15; refine Calls.mono new_any ?_; rintro e w8 ⟨rfl, hz8, hb8⟩; obtain ⟨f0, f1, f2, f3, fl0, fl1⟩ := HCE.out w8 _ (HBE.out.but (hb7.trans hb8) (fun h => h)))
    | (go_at_call 16; refine Calls.mono (HSU.out w5 _ _ HB5.out (hb7.trans hb8) (.inr ⟨_, rfl, Sm.zero hz8⟩)) ?_; rintro e w9 ⟨rfl, hb9⟩; obtain ⟨g0, g1, g2, g3, gl0, gl1⟩ := HCE.out w9 _ (HBE.out.but hb9 (fun h => h))))
  all_goals
    clear c0 c1 c2 c3 cl0 cl1 heq d0 d1 d2 d3 dl0 dl1 e0 e1 e2 e3 el0 el1 f0 f1 f2 f3 fl0 fl1 g0 g1 g2 g3 gl0 gl1
  all_goals
    go_wp2
    go_ret
    exact ⟨rfl, (HB5.out.trans hb9).below (Nat.le_refl _) (fun _ _ h => h)⟩
end Go.Proofs.YtmilmaljahjgeaaDoor
