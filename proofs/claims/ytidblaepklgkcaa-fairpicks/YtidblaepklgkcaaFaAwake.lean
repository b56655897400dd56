/- The document's example of turns; a row of a law's own. -/
import Derived.Test.YtidblaepklgkcaaFaTurn
namespace Go.Proofs.Ytidblaepklgkcaa
open Go.RowKit

/-- The row is new since w0. -/
structure Fl (w0 w : World) (g gt : Nat) (T : List Sh) : Prop where
  fr : Fr w g gt T
  grow : Grow w0 w
  ng : w0.heap.size ≤ g
  nt : w0.heap.size ≤ gt
section
variable {w0 w w' : World} {g gt : Nat} {T T' : List Sh} {i : Int} {k : Nat}
theorem Fl.then (h : Fl w0 w g gt T) (k : Grow w w') : Fl w0 w' g gt T := ⟨h.fr.grow k, h.grow.trans k, h.ng, h.nt⟩
theorem Fl.to (h : Fl w0 w g gt T) (k : FrTo w g gt T' w') : Fl w0 w' g gt T' := ⟨k.fr, h.grow.then k.but (fun i hi e => by have := h.nt; omega), h.ng, h.nt⟩
theorem fl_new (w : World) (n : Nat) (h1 : 1 ≤ n) (h8 : n ≤ 8) : Calls Try.prog 10 #[.int .i64 (n : Int)] w fun e w' => ∃ g gt, e = .returned (.tuple #[ptr g, .int .i64 0]) ∧ Fl w w' g gt (fresh n) := by
  refine (new_any w n h1 h8).mono ?_
  rintro e w' ⟨g, gt, rfl, h1, h2, h3, h4⟩
  exact ⟨g, gt, rfl, h1, h2, h3, h4⟩
theorem fl_weight (h : Fl w0 w g gt T) {x : Nat} (hx : x < 18446744073709551616) : Calls Try.prog 29 #[ptr g, .int .i64 i, .float .f64 x] w fun e w' => e = .returned (.int .i64 (cod T i)) ∧ Fl w0 w' g gt (wgt T i x) ∧ But (· = gt) w w' := (weight_any h.fr hx).mono (fun _ _ k => ⟨k.1, h.to k.2, k.2.but⟩)
theorem fl_wake (h : Fl w0 w g gt T) : Calls Try.prog 31 #[ptr g, .int .i64 i] w fun e w' => e = .returned (.int .i64 (cod T i)) ∧ Fl w0 w' g gt (wak T i) ∧ But (· = gt) w w' := (wake_any h.fr).mono (fun _ _ k => ⟨k.1, h.to k.2, k.2.but⟩)
theorem fl_sleep (h : Fl w0 w g gt T) : Calls Try.prog 33 #[ptr g, .int .i64 i] w fun e w' => e = .returned (.int .i64 (cod T i)) ∧ Fl w0 w' g gt (slp T i) ∧ But (· = gt) w w' := (sleep_any h.fr).mono (fun _ _ k => ⟨k.1, h.to k.2, k.2.but⟩)
/-- Whose turn it is. -/
def nxI (T : List Sh) : Nat := match awN T with
  | [] => 0
  | a :: l => nx1 T l a
def nxS (T : List Sh) : List Sh := if (awN T).isEmpty then T else nxT T (nxI T)
theorem fl_next (h : Fl w0 w g gt T) : Calls Try.prog 36 #[ptr g] w fun e w' => e = .returned (.tuple #[.int .i64 (nxI T : Nat), .bool (!(awN T).isEmpty)]) ∧ Fl w0 w' g gt (nxS T) ∧ But (· = gt) w w' := by
  unfold nxS nxI
  cases ha : awN T with
  | nil => exact (next_none h.fr ha).mono (fun _ _ k => ⟨k.1, h.then k.2, k.2.mono (fun _ _ h => h.elim)⟩)
  | cons a l => exact (next_some h.fr ha).mono (fun _ _ k => ⟨k.1, h.to k.2, k.2.but⟩)
end
def aT3 : List Sh := wgt (wak (wak (fresh 3) 0) 1) 1 4611686018427387904
theorem aw_cod : cod (fresh 3) 0 = 0 ∧ cod (wak (fresh 3) 0) 1 = 0 ∧ cod (wak (wak (fresh 3) 0) 1) 1 = 0 := by decide +kernel
theorem aw_nx : nxI aT3 = 0 ∧ nxI (nxS aT3) = 1 ∧ nxI (nxS (nxS aT3)) = 1 ∧ nxI (nxS (nxS (nxS aT3))) = 0 ∧ (awN (nxS (nxS (nxS aT3)))).isEmpty = false := by decide +kernel
set_option maxRecDepth 100000 in
set_option maxHeartbeats 1000000 in
theorem awake_any (w : World) : Calls Try.prog 16 #[] w fun e w' => e = .returned (.bool true) ∧ Grow w w' := by
  have HN := Hid.mk' (fl_new w 3 (by decide) (by decide))
  obtain ⟨c1, c2, c3⟩ := aw_cod
  obtain ⟨n1, n2, n3, n4, n5⟩ := aw_nx
  go_enter Try.func16, Try.ntmps16
  go_wp2_with fail
  refine Calls.mono HN.out ?_
  rintro e w1 ⟨g, gt, rfl, h1⟩
  have h2 := fl_wake (i := 0) h1
  rw [c1] at h2
  have H2 := Hid.mk' h2
  clear h1 h2 c1 HN
  go_wp2_with fail
  refine Calls.mono H2.out ?_
  rintro e w2 ⟨rfl, h1, -⟩
  have h2 := fl_wake (i := 1) h1
  rw [c2] at h2
  have H3 := Hid.mk' h2
  clear h1 h2 c2 H2
  go_wp2_with fail
  refine Calls.mono H3.out ?_
  rintro e w3 ⟨rfl, h1, -⟩
  have h2 := fl_weight (i := 1) (x := 4611686018427387904) h1 (by decide)
  rw [c3] at h2
  have H4 := Hid.mk' h2
  clear h1 h2 c3 H3
  go_wp2_with fail
  refine Calls.mono H4.out ?_
  rintro e w4 ⟨rfl, h1, -⟩
  have h2 := fl_next h1
  rw [show nxI (wgt (wak (wak (fresh 3) 0) 1) 1 4611686018427387904) = 0 from n1] at h2
  have H5 := Hid.mk' h2
  clear h1 h2 n1 H4
  go_wp2_with fail
  refine Calls.mono H5.out ?_
  rintro e w5 ⟨rfl, h1, -⟩
  have h2 := fl_next h1
  rw [show nxI (nxS (wgt (wak (wak (fresh 3) 0) 1) 1 4611686018427387904)) = 1 from n2] at h2
  have H6 := Hid.mk' h2
  clear h1 h2 n2 H5
  go_wp2_with fail
  refine Calls.mono H6.out ?_
  rintro e w6 ⟨rfl, h1, -⟩
  have h2 := fl_next h1
  rw [show nxI (nxS (nxS (wgt (wak (wak (fresh 3) 0) 1) 1 4611686018427387904))) = 1 from n3] at h2
  have H7 := Hid.mk' h2
  clear h1 h2 n3 H6
  go_wp2_with fail
  refine Calls.mono H7.out ?_
  rintro e w7 ⟨rfl, h1, -⟩
  have h2 := fl_next h1
  rw [show nxI (nxS (nxS (nxS (wgt (wak (wak (fresh 3) 0) 1) 1 4611686018427387904)))) = 0 from n4, show (awN (nxS (nxS (nxS (wgt (wak (wak (fresh 3) 0) 1) 1 4611686018427387904))))).isEmpty = false from n5] at h2
  have H8 := Hid.mk' h2
  clear h1 h2 n4 n5 H7
  go_wp2_with fail
  refine Calls.mono H8.out ?_
  rintro e w8 ⟨rfl, h1, -⟩
  have H9 := Hid.mk' h1.grow
  clear h1
  go_wp2
  go_ret
  exact ⟨rfl, H9.out⟩
end Go.Proofs.Ytidblaepklgkcaa
