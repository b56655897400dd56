/- The document's example (awake). -/
import Derived.Test.YtgffaekhhhkjcaaRowPut
namespace Go.Proofs.Ytgffaekhhhkjcaa
open Go.RowKit

theorem lit_ow (w : World) (zs : List Nat) (hz : ∀ z ∈ zs, z < 256) (hl : zs.length ≤ 281474976710656) : Ow (w.alloc (.cells (u8s zs).toArray 5)) w.heap.size (.slice (some ⟨w.heap.size, 0, none⟩) zs.length zs.length) zs :=
  block_own (heap_alloc_new w _) (Nat.le_refl _) hz hl
theorem Rd.drewN {w : World} {r : Nat} {og : Option Nat} {zs : List Nat} {f : Int} (h : Rd w r og zs f) (d : Nat) : Rd (w.drewN d) r og zs f :=
  h.below (below_drewN (Below.refl _ _) d)
theorem Bs.drewN {w : World} {v : Value} {zs : List Nat} (h : Bs w v zs) (d : Nat) : Bs (w.drewN d) v zs := h.below (below_drewN (Below.refl _ _) d)

theorem awake_any (w : World) : Calls Try.prog 14 #[] w fun e w' => e = .returned (.bool true) ∧ Below w.heap.size w w' := by
  go_enter Try.func14, Try.ntmps14
  go_wp2_with fail
  refine Calls.mono (put_ok (Bs.nil w) (by simp) 258 2 (by decide) (by decide) (by decide)) ?_
  rintro e w1 ⟨v, rfl, hown, hb1⟩
  have e1 : [] ++ be 258 2 = [1, 2] := rfl
  rw [e1] at hown
  obtain ⟨ao, m, cap, rfl⟩ := hown.slice
  have HO : Hid (Ow w1 w.heap.size (.slice ao m cap) [1, 2]) := hown
  have H1 : Hid (Below w.heap.size w w1) := hb1
  have hs1 := hb1.size
  clear hown hb1
  go_wp2_with fail
  refine Calls.mono (new_any (lit_ow w1 [1, 2, 3] (by decide) (by decide)).bs (by decide)) ?_
  rintro e w2 ⟨r, og, rfl, hr, hg, hrd, hb2⟩
  have hbw : Below w1.heap.size w1 w2 := ((Below.refl _ _).alloc (Nat.le_refl _) _).trans (hb2.mono (by simp))
  have hs2 := hbw.size
  have HR : Hid (Rd w2 r og [1, 2, 3] 0) := hrd
  have HB : Hid (Below w.heap.size w w2) := H1.out.trans (hbw.mono hs1)
  have HO2 : Hid (Bs w2 (.slice ao m cap) [1, 2]) := HO.out.bs.below hbw
  have hr' : w.heap.size ≤ r := by simp at hr; omega
  clear hr hg hrd hb2 hbw
  go_wp2_with fail
  have hb3 : Below w2.heap.size w2 (w2.alloc (.cells (u8s [1, 2]).toArray 5)) := (Below.refl _ _).alloc (Nat.le_refl _) _
  refine Calls.mono (same_any (HO2.out.below hb3) (lit_ow w2 [1, 2] (by decide) (by decide)).bs) ?_
  rintro e w3 ⟨rfl, d, rfl⟩
  have hb4 : Below w2.heap.size w2 ((w2.alloc (.cells (u8s [1, 2]).toArray 5)).drewN d) := below_drewN hb3 d
  have hrd := HR.out.below hb4
  have HB4 : Hid (Below w.heap.size w ((w2.alloc (.cells (u8s [1, 2]).toArray 5)).drewN d)) := HB.out.trans (hb4.mono HB.out.size)
  have hs4 := hb4.size
  go_wp2_with fail
  refine Calls.mono (num_ok hrd 2 (by decide) (by decide) (by decide)) ?_
  rintro e w5 ⟨rfl, hrd5, hbut5⟩
  have hv : val (List.take 2 [1, 2, 3]) = 258 := by decide
  rw [hv]
  have HB5 : Hid (Below w.heap.size w w5) := HB4.out.trans (hbut5.below HB4.out.size (fun k hk e => by omega))
  clear hbut5
  go_wp2_with fail
  refine Calls.mono (left_any hrd5) ?_
  rintro e w6 ⟨rfl, hw6⟩
  have hw7 := hw6.symm
  subst hw7
  go_wp2
  go_ret
  exact ⟨rfl, HB5.out⟩
end Go.Proofs.Ytgffaekhhhkjcaa
