/- The document's examples. -/
import Derived.Test.YthpgjbblbhjndaaDoorGhHash
namespace Go.Proofs.YthpgjbblbhjndaaDoor
open Go.RowKit

theorem Lg.top {w : World} {own : Owner} {gl : Nat} {P : List Pr} {S O : List Tup} (h : Lg w own gl P S O) : Top w own := by
  obtain ⟨_, _, _, _, _, _, h⟩ := h; exact h.top
/-- A log that is new since w0. -/
structure LgN (w0 w : World) (own : Owner) (gl : Nat) (P : List Pr) (S O : List Tup) : Prop where
  lg : Lg w own gl P S O
  grow : Grow w0 w
  new : ∀ b, own b ≠ .none → w0.heap.size ≤ b
theorem LgTo.keeps {w W : World} {own own' : Owner} {gl : Nat} {P : List Pr} {S O : List Tup} (k : LgTo w own gl P S O W) (hf : Fresh w own own') {v : Value} {xs : List Nat} (h : Bf w (Is own .none) v xs) : Bf W (Is own' .none) v xs := by
  have h1 := h.but k.but (fun j hj e => e hj)
  refine ⟨h1.1, fun h0 j hj => ?_⟩
  have h2 := h.2 h0 j hj
  by_cases hq : own' j = own j
  · show own' j = .none
    rw [hq]; exact h2
  · exact absurd hj (h.1.own h0 (hf j hq))
theorem LgN.to {w0 w W : World} {own : Owner} {gl : Nat} {P P' : List Pr} {S S' O O' : List Tup} (h : LgN w0 w own gl P S O) (k : LgTo w own gl P' S' O' W) : ∃ own', LgN w0 W own' gl P' S' O' ∧ ∀ v xs, Bf w (Is own .none) v xs → Bf W (Is own' .none) v xs := by
  obtain ⟨own', h1, h2, h3⟩ := k.ex
  refine ⟨own', ⟨h3, h.grow.then k.but (fun i hi e => by have := h.new i e; omega), fun b hb => ?_⟩, fun v xs hb => k.keeps h2 hb⟩
  by_cases hq : own' b = own b
  · exact h.new b (by rw [← hq]; exact hb)
  · exact Nat.le_trans h.grow.size (h2 b hq)
theorem LgN.then {w0 w W : World} {own : Owner} {gl : Nat} {P : List Pr} {S O : List Tup} (h : LgN w0 w own gl P S O) (k : Grow w W) : LgN w0 W own gl P S O := ⟨h.lg.but k (fun _ _ h => h), h.grow.trans k, h.new⟩
def D7 : List Nat := 7 :: List.replicate 31 0
def T3 : Tup := (3, List.replicate 12 0, [], [])
theorem D7_wf : wf32 D7 := ⟨rfl, by decide⟩
theorem D7_build (w : World) : (Instr.build 35 #[(0, .int .u8 7)]).run Tryd.prog w = .ok (dkey D7) w := run_build w _ _ _ (by kernel_rfl)
theorem T3_build (w : World) : (Instr.build 46 #[(0, .int .u32 3)]).run Tryd.prog w = .ok (.agg (tcells T3 (.slice none 0 0) (.slice none 0 0)).toArray) w := run_build w _ _ _ (by kernel_rfl)
theorem T3_tv (w : World) (F : Nat → Prop) : Tv w F T3 (.slice none 0 0) (.slice none 0 0) := ⟨by decide, rfl, by decide, ⟨Bs.nil w, fun h => absurd h (by decide)⟩, ⟨Bs.nil w, fun h => absurd h (by decide)⟩⟩
theorem lit1 {w : World} {own : Owner} (ht : Top w own) (x : Nat) (hx : x < 256) : Bf (w.alloc (.cells #[.int .u8 (x : Int)] 5)) (Is own .none) (.slice (some ⟨w.heap.size, 0, none⟩) 1 1) [x] := by
  refine ⟨⟨by simpa using hx, by simp, .inr ⟨by simp, w.heap.size, 0, 1, rfl, by simp, by simp, fun i hi => ?_⟩⟩, fun _ j hj => ?_⟩
  · obtain rfl : i = 0 := by simpa using hi
    have hb : Blk (w.alloc (.cells #[.int .u8 (x : Int)] 5)) w.heap.size 5 [.int .u8 (x : Int)] := Blk.new (L := [.int .u8 (x : Int)]) rfl
    rw [Nat.add_zero, hb.cell]; rfl
  · cases hj; exact ht _ (Nat.le_refl _)
theorem T3_sized : Sized ([] ++ [T3]) := fun t ht => by rw [show t = T3 by simpa using ht]; decide
theorem clash2 : Fst2 (ck [([1], D7), ([2], D7)]) 2 (some (0, 1)) := by
  refine ⟨by decide, by decide, by decide, fun k hk => absurd hk (by omega), fun l hl k hk => ?_⟩
  omega
set_option maxRecDepth 100000 in
set_option maxHeartbeats 8000000 in
theorem awake_any (w : World) : Calls Tryd.prog 10 #[] w fun e w' => e = .returned (.bool true) ∧ Grow w w' := by
  have hd7 := D7_build
  have ht3 := T3_build
  obtain ⟨K7, hK7⟩ : ∃ K, K = dkey D7 := ⟨_, rfl⟩
  obtain ⟨V3, hV3⟩ : ∃ V, V = (tcells T3 (.slice none 0 0) (.slice none 0 0)).toArray := ⟨_, rfl⟩
  rw [← hK7] at hd7
  rw [← hV3] at ht3
  have HD7 := Hid.mk' hd7
  have HT3 := Hid.mk' ht3
  have HK7 := Hid.mk' hK7
  have HV3 := Hid.mk' hV3
  clear hd7 ht3 hK7 hV3
  go_enter Tryd.func10, Tryd.ntmps10
  go_wp2_with fail
  refine Calls.mono (new_any (w := w) (fun _ => .none) (fun _ _ => rfl)) ?_
  rintro e w1 ⟨gl, rfl, hgl, hg1, hl1⟩
  have H1 : Hid (LgN w w1 (tagAt (fun _ => .none) gl .log) gl [] [] []) := ⟨hl1, hg1, fun b hb => by
    by_cases e : b = gl
    · omega
    · exact absurd (by unfold tagAt; rw [if_neg e]) hb⟩
  clear hl1 hg1 hgl
  generalize tagAt (fun _ => Tag.none) gl .log = own1 at *
  have HN1 : Hid (Calls Tryd.prog 25 #[.pointer (some ⟨gl, 0, none⟩), .slice (some ⟨w1.heap.size, 0, none⟩) 1 1, K7] (w1.alloc (.cells #[.int .u8 1] 5)) fun e w' => e = .returned (.tuple #[]) ∧ LgTo (w1.alloc (.cells #[.int .u8 1] 5)) own1 gl [([1], D7)] [] [] w') := by
    rw [HK7.out]
    exact note_any (H1.out.then ((But.refl _ w1).alloc _)).lg (lit1 H1.out.lg.top 1 (by decide)) (by decide) D7_wf (by decide)
  go_wp2_with (first
    | (refine wpList_build_run rfl _ [_] rfl [(0, .int .u8 7)] rfl K7 (HD7.out _) ?_)
    | fail)
  refine Calls.mono HN1.out ?_
  rintro e w2 ⟨rfl, hl2⟩
  obtain ⟨own2, h2, -⟩ := (H1.out.then ((But.refl _ w1).alloc _)).to hl2
  have H2 := Hid.mk' h2
  clear h2 hl2 H1 HN1 own1
  have HN2 : Hid (Calls Tryd.prog 25 #[.pointer (some ⟨gl, 0, none⟩), .slice (some ⟨w2.heap.size, 0, none⟩) 1 1, K7] (w2.alloc (.cells #[.int .u8 2] 5)) fun e w' => e = .returned (.tuple #[]) ∧ LgTo (w2.alloc (.cells #[.int .u8 2] 5)) own2 gl [([1], D7), ([2], D7)] [] [] w') := by
    rw [HK7.out]
    exact note_any (H2.out.then ((But.refl _ w2).alloc _)).lg (lit1 H2.out.lg.top 2 (by decide)) (by decide) D7_wf (by decide)
  go_wp2_with (first
    | (refine wpList_build_run rfl _ [_] rfl [(0, .int .u8 7)] rfl K7 (HD7.out _) ?_)
    | fail)
  refine Calls.mono HN2.out ?_
  rintro e w3 ⟨rfl, hl3⟩
  obtain ⟨own3, h3, -⟩ := (H2.out.then ((But.refl _ w2).alloc _)).to hl3
  have H3 := Hid.mk' h3
  clear h3 hl3 H2 HN2 own2
  go_wp2_with fail
  refine Calls.mono (clash_any H3.out.lg (by decide)) ?_
  rintro e w4 ⟨hg4, hc | ⟨i, j, va, vb, rfl, hF, hoa, hob⟩⟩
  · exact absurd (clash2.uniq hc.2) (by simp)
  have hij := clash2.uniq hF
  simp only [Option.some.injEq, Prod.mk.injEq] at hij
  obtain ⟨rfl, rfl⟩ := hij
  have HA : Hid (Bf w4 (Is own3 .none) va [1]) := ⟨hoa.bs, fun _ k hk => H3.out.lg.top k (hoa.ge k hk).1⟩
  have HB : Hid (Bf w4 (Is own3 .none) vb [2]) := ⟨hob.bs, fun _ k hk => H3.out.lg.top k (hob.ge k hk).1⟩
  have H4 := Hid.mk' (H3.out.then hg4)
  obtain ⟨aa, na, ca, hva⟩ := hoa.bs.sl
  obtain ⟨ab, nb, cb, hvb⟩ := hob.bs.sl
  clear hg4 hF hoa hob H3
  have HOP := Hid.mk' (opened_any H4.out.lg (T3_tv w4 _) (by decide) (by decide) (by decide) (by decide))
  rw [← HV3.out] at HOP
  subst hva
  subst hvb
  go_wp2_with (first
    | (refine wpList_build_run rfl _ [_] rfl [(0, .int .u32 3)] rfl (.agg V3) (HT3.out _) ?_)
    | fail)
  generalize Value.slice aa na ca = va at *
  generalize Value.slice ab nb cb = vb at *
  refine Calls.mono HOP.out ?_
  rintro e w5 ⟨rfl, hl5⟩
  obtain ⟨own5, h5, hk5⟩ := H4.out.to hl5
  have H5 := Hid.mk' h5
  have HA5 := Hid.mk' (hk5 _ _ HA.out)
  have HB5 := Hid.mk' (hk5 _ _ HB.out)
  clear h5 hl5 hk5 H4 HOP HA HB
  go_wp2_with fail
  refine Calls.mono (forged_any H5.out.lg T3_sized (by decide) (by decide)) ?_
  rintro e w6 ⟨hg6, T, ta, ts, ok, rfl, hnew, hfi⟩
  obtain ⟨rfl, rfl⟩ : ok = true ∧ T = T3 := by
    rcases hfi with ⟨h1, h2⟩ | ⟨_, h2, _⟩
    · refine ⟨h1, ?_⟩
      have : (outOf ([] : List Tup) ([] ++ [T3])).head? = some T3 := by decide
      rw [this] at h2
      exact (Option.some.inj h2).symm
    · exact absurd h2 (by decide)
  have H6 := Hid.mk' (H5.out.then hg6)
  have HA6 := Hid.mk' (HA5.out.then hg6)
  have HB6 := Hid.mk' (HB5.out.then hg6)
  have HONE : Hid (∀ u ∈ tcells T3 ta ts, u.oneCell' = true) := tcells_one hnew.aad.bs.one hnew.sea.bs.one
  obtain ⟨Z, hZ⟩ : ∃ Z, Z = zeroT := ⟨_, rfl⟩
  have hz := zT
  rw [← hZ] at hz
  have HZL : Hid (Z.length = 15) := by show _ = _; rw [hZ]; rfl
  have HZE := Hid.mk' hZ
  have HBZ : Hid (Blk (w6.alloc (.cells Z.toArray 46)) w6.heap.size 46 Z) := Blk.new rfl
  clear hg6 hfi hnew H5 HA5 HB5 hZ
  go_upto_region 7 with (first
    | (refine wpList_store_at rfl _ _ _ rfl w6.heap.size 0 (tcells T3 ta ts) rfl rfl 46 [] Z [] (by simpa using HBZ.out) rfl (by rw [HZL.out]; rfl) (by rw [iT]; rfl) HONE.out ?_; intro w7 hb7 hbut7; rw [List.nil_append, List.append_nil] at hb7)
    | fail)
  obtain ⟨g7, hg7⟩ : ∃ g, g = w6.heap.size := ⟨_, rfl⟩
  rw [← hg7] at hb7 hbut7 ⊢
  have hG7 : Grow w6 w7 := ((But.refl _ w6).alloc _).then hbut7 (fun i hi e => by omega)
  have H7 := Hid.mk' (H6.out.then hG7)
  have HA7 := Hid.mk' (HA6.out.then hG7)
  have HB7 := Hid.mk' (HB6.out.then hG7)
  have HT7 : Hid (Blk w7 g7 46 (tcells T3 ta ts)) := hb7
  have H7T := H6.out.lg.top
  have HN7 : Hid (own5 g7 = .none) := H7T g7 (by omega)
  clear hb7 hbut7 hG7 HBZ H6 HA6 HB6 H7T hg7
  have HSE := Hid.mk' (sealed_any H7.out.lg (T3_tv w7 _) (by decide) (by decide) (by decide))
  rw [← HV3.out] at HSE
  go_wp2_with (first
    | (refine wpList_build_run rfl _ [_] rfl [(0, .int .u32 3)] rfl (.agg V3) (HT3.out _) ?_)
    | fail)
  refine Calls.mono HSE.out ?_
  rintro e w8 ⟨rfl, hl8⟩
  obtain ⟨own8, h8, hk8⟩ := H7.out.to hl8
  have H8 := Hid.mk' h8
  have HA8 := Hid.mk' (hk8 _ _ HA7.out)
  have HB8 := Hid.mk' (hk8 _ _ HB7.out)
  have HT8 := Hid.mk' (HT7.out.but hl8.but (fun e => e HN7.out))
  clear h8 hl8 hk8 H7 HSE HA7 HB7 HT7
  go_wp2_with fail
  refine Calls.mono (forged_any H8.out.lg T3_sized (by decide) (by decide)) ?_
  rintro e w9 ⟨hg9, T, ua, us, ok, rfl, hnew, hfi⟩
  obtain ⟨rfl, rfl⟩ : ok = false ∧ T = tz := by
    rcases hfi with ⟨_, h2⟩ | ⟨h1, _, h2⟩
    · exact absurd h2 (by
        have : (outOf ([] ++ [T3]) ([] ++ [T3] : List Tup)) = [] := by decide
        rw [this]; simp)
    · exact ⟨h1, h2⟩
  have HON2 : Hid (∀ u ∈ tcells tz ua us, u.oneCell' = true) := tcells_one hnew.aad.bs.one hnew.sea.bs.one
  have HBZ : Hid (Blk (w9.alloc (.cells Z.toArray 46)) w9.heap.size 46 Z) := Blk.new rfl
  have HG9 := Hid.mk' (H8.out.grow.trans hg9)
  have HA9 := Hid.mk' (HA8.out.then hg9)
  have HB9 := Hid.mk' (HB8.out.then hg9)
  have HT9 := Hid.mk' (HT8.out.but hg9 (fun h => h))
  clear hg9 hfi hnew H8 HA8 HB8 HT8
  go_upto_region 9 with (first
    | (refine wpList_store_at rfl _ _ _ rfl w9.heap.size 0 (tcells tz ua us) rfl rfl 46 [] Z [] (by simpa using HBZ.out) rfl (by rw [HZL.out]; rfl) (by rw [iT]; rfl) HON2.out ?_; intro wA hbA hbutA; rw [List.nil_append, List.append_nil] at hbA)
    | fail)
  have hGA : Grow w9 wA := ((But.refl _ w9).alloc _).then hbutA (fun i hi e => by omega)
  have HGA := Hid.mk' (HG9.out.trans hGA)
  have HAA := Hid.mk' (HA9.out.then hGA)
  have HBA := Hid.mk' (HB9.out.then hGA)
  have hep : wA.cell? ⟨g7, 0, none⟩ = some (.int .u32 3) := (HT9.out.but hGA (fun h => h)).cell 0
  have HEP : Hid (∀ w', Grow wA w' → w'.cell? ⟨g7, 0, none⟩ = some (.int .u32 3)) := fun w' hw => ((HT9.out.but hGA (fun h => h)).but hw (fun h => h)).cell 0
  clear hbA hbutA hGA HT9 HA9 HB9 HG9 HBZ hep
  have hal1 : Grow wA (wA.alloc (.cells #[.int .u8 1] 5)) := (But.refl _ wA).alloc _
  have HS1 : Hid (Calls Tryd.prog 14 #[va, .slice (some ⟨wA.heap.size, 0, none⟩) 1 1] (wA.alloc (.cells #[.int .u8 1] 5)) fun e w' => e = .returned (.bool true) ∧ ∃ d, w' = (wA.alloc (.cells #[.int .u8 1] 5)).drewN d) := by
    have := same_any (HAA.out.then hal1).1 (lit1 (w := wA) (own := fun _ => .none) (fun _ _ => rfl) 1 (by decide)).1
    show Calls _ _ _ _ _
    simpa using this
  clear hal1
  go_wp2_with fail
  refine Calls.mono HS1.out ?_
  rintro e wB ⟨rfl, d, rfl⟩
  obtain ⟨wB, hwB⟩ : ∃ x, x = (wA.alloc (.cells #[.int .u8 1] 5)).drewN d := ⟨_, rfl⟩
  have hgB : Grow wA wB := by rw [hwB]; exact ((But.refl _ wA).alloc _).drewN
  rw [← hwB]
  have HGB := Hid.mk' hgB
  have HGB2 := Hid.mk' (HGA.out.trans hgB)
  have HBB := Hid.mk' (HBA.out.then hgB)
  clear hwB hgB HS1
  have hal2 : Grow wB (wB.alloc (.cells #[.int .u8 2] 5)) := (But.refl _ wB).alloc _
  have HS2 : Hid (Calls Tryd.prog 14 #[vb, .slice (some ⟨wB.heap.size, 0, none⟩) 1 1] (wB.alloc (.cells #[.int .u8 2] 5)) fun e w' => e = .returned (.bool true) ∧ ∃ d, w' = (wB.alloc (.cells #[.int .u8 2] 5)).drewN d) := by
    have := same_any (HBB.out.then hal2).1 (lit1 (w := wB) (own := fun _ => .none) (fun _ _ => rfl) 2 (by decide)).1
    show Calls _ _ _ _ _
    simpa using this
  clear hal2
  go_wp2_with fail
  refine Calls.mono HS2.out ?_
  rintro e wC ⟨rfl, d2, rfl⟩
  obtain ⟨wC, hwC⟩ : ∃ x, x = (wB.alloc (.cells #[.int .u8 2] 5)).drewN d2 := ⟨_, rfl⟩
  have hgC : Grow wB wC := by rw [hwC]; exact ((But.refl _ wB).alloc _).drewN
  rw [← hwC]
  have HGC := Hid.mk' (HGB2.out.trans hgC)
  have hep := HEP.out wC (HGB.out.trans hgC)
  clear hwC hgC HS2
  go_wp2
  go_ret
  exact ⟨rfl, HGC.out⟩
end Go.Proofs.YthpgjbblbhjndaaDoor
