/- The law's awake. -/
import Derived.Test.YtbdmlnmicijnjaaDvFull
namespace Go.Proofs.Ytbdmlnmicijnjaa
open Go.RowKit

section
variable {w0 w w1 : World} {own : Owner} {gd : Nat} {s s1 : Dev}
theorem Bs.lt' {w : World} {v : Value} {xs : List Nat} (h : Bs w v xs) (h0 : 0 < xs.length) : ∀ j, v.ownBlock = some j → j < w.heap.size := fun j hj => by
  rcases Nat.lt_or_ge j w.heap.size with e | e
  · exact e
  · exact absurd hj (h.own h0 e)
/-- A call on the device leaves alone what isn't its own. -/
theorem DvN.step (h : DvN w0 w own gd s) (k : DvTo w own gd s1 w1) : ∃ own1, DvN w0 w1 own1 gd s1 ∧ (∀ v xs, Bf w (Is own .none) v xs → Bf w1 (Is own1 .none) v xs) ∧ Fresh w own own1 := by
  obtain ⟨own1, h1, h2⟩ := h.to k
  refine ⟨own1, h1, fun v xs hv => ?_, h2⟩
  have h3 := hv.but k.but (fun j hj e => e hj)
  refine ⟨h3.1, fun h0 j hj => ?_⟩
  have h4 : own j = .none := hv.2 h0 j hj
  by_cases hq : own1 j = own j
  · show own1 j = .none
    rw [hq]; exact h4
  · have := h2 j hq
    have := hv.1.lt' h0 j hj
    omega
theorem DvN.free (h : DvN w0 w own gd s) {v : Value} {xs : List Nat} (ho : Ow w1 w.heap.size v xs) : Bf w1 (Is own .none) v xs := ⟨ho.bs, fun _ j hj => h.dv.top j (ho.ge j hj).1⟩
end
theorem lit_b (w : World) (x : Nat) (hx : x < 256) : Bs (w.alloc (.cells #[.int .u8 (x : Int)] 5)) (.slice (some ⟨w.heap.size, 0, none⟩) 1 1) [x] := by
  have hb : Blk (w.alloc (.cells #[.int .u8 (x : Int)] 5)) w.heap.size 5 (u8s [x]) := Blk.new (L := u8s [x]) rfl
  exact hb.bs rfl (by decide) (fun z hz => by rw [show z = x by simpa using hz]; exact hx) (by decide)
theorem lit_i (w : World) (x : Int) (h1 : -9223372036854775808 ≤ x) (h2 : x ≤ 9223372036854775807) : IntS (w.alloc (.cells #[.int .i64 x] 3)) (.slice (some ⟨w.heap.size, 0, none⟩) 1 1) [x] := by
  have hb : Blk (w.alloc (.cells #[.int .i64 x] 3)) w.heap.size 3 [.int .i64 x] := Blk.new (L := [.int .i64 x]) rfl
  refine ⟨fun y hy => by rw [show y = x by simpa using hy]; exact ⟨h1, h2⟩, by simp, .inr ⟨by simp, w.heap.size, 0, 1, rfl, by simp, fun i hi => ?_⟩⟩
  obtain rfl : i = 0 := by simpa using hi
  rw [hb.cell]; rfl
set_option maxRecDepth 100000 in
set_option maxHeartbeats 4000000 in
theorem awake_any (w : World) : Calls Try.prog 10 #[] w fun e w' => e = .returned (.bool true) ∧ Grow w w' := by
  have HNW := Hid.mk' (new_any w 4 (by decide) (by decide))
  unfold Dev.fresh at HNW
  obtain ⟨st, hst⟩ : ∃ st, st = List.replicate 4 z256 := ⟨_, rfl⟩
  rw [← hst] at HNW
  have HSL : Hid (st.length = 4) := by show _ = _; rw [hst]; rfl
  obtain ⟨A, hA⟩ : ∃ A, A = fullOf [1] := ⟨_, rfl⟩
  obtain ⟨B, hB⟩ : ∃ B, B = fullOf [2] := ⟨_, rfl⟩
  have HAW : Hid (wf256 A) := by rw [hA]; exact fullOf_wf (by decide)
  have HBW : Hid (wf256 B) := by rw [hB]; exact fullOf_wf (by decide)
  have HAE := Hid.mk' hA
  have HBE := Hid.mk' hB
  clear hst hA hB
  go_enter Try.func10, Try.ntmps10
  go_wp2_with fail
  refine Calls.mono HNW.out ?_
  rintro e w1 ⟨gd, own, rfl, hd1⟩
  have HD1 := Hid.mk' hd1
  have HFA := Hid.mk' (full_any (lit_b w1 1 (by decide)))
  rw [← HAE.out] at HFA
  clear hd1 HNW
  go_wp2_with (first
    | (refine wpList_run rfl (exec_row1 Try.underlying32 infB (by decide) (by decide) rfl rfl rfl) ?_)
    | fail)
  refine Calls.mono HFA.out ?_
  rintro e w2 ⟨⟨ga, rfl, hga, hoa⟩, hg2⟩
  have hg12 : Grow w1 w2 := ((But.refl _ w1).alloc _).trans hg2
  have HD2 := Hid.mk' (HD1.out.then hg12)
  have HA2 : Hid (Bf w2 (Is own .none) (.slice (some ⟨ga, 0, none⟩) 256 256) A) := HD1.out.free (hoa.mono (by simp))
  have HFB := Hid.mk' (full_any (lit_b w2 2 (by decide)))
  rw [← HBE.out] at HFB
  clear hga hoa hg2 hg12 HFA HD1
  go_wp2_with (first
    | (refine wpList_run rfl (exec_row1 Try.underlying32 infB (by decide) (by decide) rfl rfl rfl) ?_)
    | fail)
  refine Calls.mono HFB.out ?_
  rintro e w3 ⟨⟨gb, rfl, hgb, hob⟩, hg3⟩
  have hg23 : Grow w2 w3 := ((But.refl _ w2).alloc _).trans hg3
  have HD3 := Hid.mk' (HD2.out.then hg23)
  have HB3 : Hid (Bf w3 (Is own .none) (.slice (some ⟨gb, 0, none⟩) 256 256) B) := HD2.out.free (hob.mono (by simp))
  have HA3 := Hid.mk' (HA2.out.but hg23 (fun _ _ h => h))
  have HW1 := Hid.mk' (write_any HD3.out.dv (by rfl) (b := 3) (by show 3 < st.length; rw [HSL.out]; decide) HA3.out HAW.out.1 (by show 0 < 100000; decide) (by show 0 < _; decide) (by show 0 ≤ _; decide))
  rw [if_neg (show ¬ (Dev.of st).arm = 1 by show ¬ (0 = 1); decide)] at HW1
  clear hgb hob hg3 hg23 HFB HD2 HA2
  go_wp2_with fail
  refine Calls.mono HW1.out ?_
  rintro e w4 ⟨rfl, h4⟩
  obtain ⟨own4, hd4, hk4, -⟩ := HD3.out.step h4
  have HD4 := Hid.mk' hd4
  have HA4 := Hid.mk' (hk4 _ _ HA3.out)
  have HB4 := Hid.mk' (hk4 _ _ HB3.out)
  have HFL := Hid.mk' (flush_any hd4.dv (by rfl) (by show 1 < _; decide) (by show 0 ≤ _; decide) (by show ¬ (0 = 1); decide))
  clear h4 hd4 hk4 HW1 HD3 HA3 HB3
  go_wp2_with fail
  refine Calls.mono HFL.out ?_
  rintro e w5 ⟨rfl, h5⟩
  obtain ⟨own5, hd5, hk5, -⟩ := HD4.out.step h5
  have HD5 := Hid.mk' hd5
  have HA5 := Hid.mk' (hk5 _ _ HA4.out)
  have HB5 := Hid.mk' (hk5 _ _ HB4.out)
  have HLN : Hid ((((Dev.of st).write 3 A).acc).acc.flushed.st.length = 4) := by
    show ((List.range st.length).map _).length = 4
    rw [List.length_map, List.length_range, HSL.out]
  have HW2 := Hid.mk' (write_any hd5.dv (by rfl) (b := 3) (by rw [HLN.out]; decide) HB5.out HBW.out.1 (by show 1 < 100000; decide) (by show 2 < _; decide) (by show 0 ≤ _; decide))
  rw [if_neg (show ¬ ((((Dev.of st).write 3 A).acc).acc.flushed).arm = 1 by show ¬ (0 = 1); decide)] at HW2
  clear h5 hd5 hk5 HFL HD4 HA4 HB4
  go_wp2_with fail
  refine Calls.mono HW2.out ?_
  rintro e w6 ⟨rfl, h6⟩
  obtain ⟨own6, hd6, hk6, -⟩ := HD5.out.step h6
  have HD6 : Hid (DvN w w6 own6 gd (chain st 3 A B)) := hd6
  have HA6 := Hid.mk' (hk6 _ _ HA5.out)
  have HCR := Hid.mk' (crash_any HD6.out.dv)
  clear h6 hd6 hk6 HW2 HD5 HA5 HB5
  go_wp2_with fail
  refine Calls.mono HCR.out ?_
  rintro e w7 ⟨rfl, h7⟩
  obtain ⟨own7, hd7, hk7, -⟩ := HD6.out.step h7
  have HA7 := Hid.mk' (hk7 _ _ HA6.out)
  have hg8 : Grow w7 (w7.alloc (.cells #[.int .i64 0] 3)) := (But.refl _ w7).alloc _
  have HD8 := Hid.mk' (hd7.then hg8)
  have HA8 := Hid.mk' (HA7.out.but hg8 (fun _ _ h => h))
  have HON := Hid.mk' (on_any HD8.out.dv (by rfl) (v := .slice (some ⟨w7.heap.size, 0, none⟩) 1 1) (fs := [0]) ⟨lit_i w7 0 (by decide) (by decide), fun _ j hj => hd7.dv.top j (by cases hj; exact Nat.le_refl _)⟩ (by show 2 ≤ 100000; decide))
  clear h7 hd7 hk7 hg8 HCR HD6 HA6 HA7
  go_wp2_with (first
    | (refine wpList_run rfl (exec_row1 Try.underlying33 infI (by decide) (by decide) rfl rfl rfl) ?_)
    | fail)
  refine Calls.mono HON.out ?_
  rintro e w9 ⟨rfl, h9⟩
  obtain ⟨own9, hd9, hk9, -⟩ := HD8.out.step h9
  have HD9 := Hid.mk' hd9
  have HA9 := Hid.mk' (hk9 _ _ HA8.out)
  have HNOW : Hid ((({ chain st 3 A B with arm := 0, up := false } : Dev).on [0]).now 3 = A) := by
    show _ = _
    rw [chain_on (by rw [HSL.out]; decide)]
    show ([] : List Nat) ++ A.drop 0 = A
    simp
  have HRD := Hid.mk' (read_any hd9.dv (by rfl) (b := 3) (by
    show 3 < (tear _ _ _).length
    rw [tear_len]
    show 3 < ((List.range st.length).map _).length
    rw [List.length_map, List.length_range, HSL.out]; decide))
  rw [HNOW.out] at HRD
  clear h9 hd9 hk9 HON HD8 HA8
  go_wp2_with fail
  refine Calls.mono HRD.out ?_
  rintro e wA ⟨gc, rfl, hgc, hbc, hgA⟩
  have HDA := Hid.mk' (HD9.out.then hgA)
  have HSA := Hid.mk' (same_any (hbc.bs HAW.out.1 (by decide) HAW.out.2 (by decide)) (HA9.out.but hgA (fun _ _ h => h)).1)
  rw [decide_eq_true rfl] at HSA
  clear hgc hbc hgA HRD HD9 HA9
  go_wp2_with fail
  refine Calls.mono HSA.out ?_
  rintro e wB ⟨rfl, d, rfl⟩
  have HDB := Hid.mk' (HDA.out.then ((But.refl _ wA).drewN (n := d)))
  have HCO := Hid.mk' (count_any HDB.out.dv)
  rw [show (({ chain st 3 A B with arm := 0, up := false } : Dev).on [0]).cnt = 3 by rfl] at HCO
  clear HSA HDA
  go_wp2_with fail
  refine Calls.mono HCO.out ?_
  rintro e wC ⟨rfl, rfl⟩
  go_wp2
  go_ret
  exact ⟨rfl, HDB.out.grow⟩
end Go.Proofs.Ytbdmlnmicijnjaa
