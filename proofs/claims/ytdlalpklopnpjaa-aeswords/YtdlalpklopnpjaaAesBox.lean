/- The program's boxed, unboxed, mixedBoxes: columns. -/
import Derived.Test.YtdlalpklopnpjaaAesCol
import Derived.Test.YtdlalpklopnpjaaFieldBoxes
namespace Go.Proofs.Ytdlalpklopnpjaa
open Go.RowKit

/-- The first k bytes of four by a map. -/
def part4 (f : B8 → B8) (l : List B8) (k : Nat) : List B8 :=
  [if 0 < k then f (at8 l 0) else at8 l 0, if 1 < k then f (at8 l 1) else at8 l 1, if 2 < k then f (at8 l 2) else at8 l 2, if 3 < k then f (at8 l 3) else at8 l 3]
def map4 (f : B8 → B8) (l : List B8) : List B8 := [f (at8 l 0), f (at8 l 1), f (at8 l 2), f (at8 l 3)]
theorem four_eta {l : List B8} (h : l.length = 4) : [at8 l 0, at8 l 1, at8 l 2, at8 l 3] = l := by
  match l, h with
  | [a, b, c, d], _ => rfl
theorem part4_zero {f : B8 → B8} {l : List B8} (h : l.length = 4) : part4 f l 0 = l := four_eta h
theorem part4_all (f : B8 → B8) (l : List B8) : part4 f l 4 = map4 f l := rfl
theorem part4_len (f : B8 → B8) (l : List B8) (k : Nat) : (part4 f l k).length = 4 := rfl
theorem part4_at (f : B8 → B8) (l : List B8) (k : Nat) (h : k < 4) : at8 (part4 f l k) k = at8 l k := by
  match k, h with
  | 0, _ => rfl
  | 1, _ => rfl
  | 2, _ => rfl
  | 3, _ => rfl
theorem part4_set (f : B8 → B8) (l : List B8) (k : Nat) (h : k < 4) : (part4 f l k).set k (f (at8 l k)) = part4 f l (k + 1) := by
  match k, h with
  | 0, _ => rfl
  | 1, _ => rfl
  | 2, _ => rfl
  | 3, _ => rfl
theorem u4l (l : List B8) (h : l.length = 4) : (u8s (nts l)).length = 4 := by unfold u8s; rw [List.length_map, nts_len]; exact h
theorem n4 (l : List B8) (h : l.length = 4) : (nts l).length = 4 := by rw [nts_len]; exact h
theorem zero4 (w : World) : (zeroValue 55).run Try.prog w = .ok (.agg (u8s (List.replicate 4 0)).toArray) w := by kernel_rfl
/-- What memory is amid a map over a column. -/
structure ColI (w : World) (g : Nat) (l : List B8) (wr : World) : Prop where
  src : Blk wr g 55 (u8s (nts l))
  res : Blk wr (g + 1) 55 (u8s (List.replicate 4 0))
  but : But (fun _ => False) w wr
set_option maxRecDepth 100000 in
set_option maxHeartbeats 1000000 in
theorem cboxed_any {w : World} {gb : Nat} {l : List B8} (hb : Bxs w gb) (hl : l.length = 4) :
    Calls Try.prog 30 #[.agg (u8s (nts l)).toArray, .pointer (some ⟨gb, 0, none⟩)] w fun e w' => e = .returned (.agg (u8s (nts (map4 bx l))).toArray) ∧ But (fun _ => False) w w' := by
  have hz := zero4
  obtain ⟨Z, hZ⟩ : ∃ Z, Z = (u8s (List.replicate 4 0)).toArray := ⟨_, rfl⟩
  rw [← hZ] at hz
  obtain ⟨C, hC⟩ : ∃ C, C = (u8s (nts l)).toArray := ⟨_, rfl⟩
  rw [← hC]
  have HZ := Hid.mk' hZ
  have HC := Hid.mk' hC
  have HB := Hid.mk' hb
  clear hZ hC hb
  go_enter Try.func30, Try.ntmps30
  go_wp2
  obtain ⟨g, hg⟩ : ∃ g, g = w.heap.size := ⟨_, rfl⟩
  have hI : ColI w g (part4 bx l 0) ((w.alloc (.cells C 55)).alloc (.cells Z 55)) := by
    rw [HC.out, HZ.out, part4_zero hl]
    refine ⟨(Blk.new hg.symm).but ((But.refl (fun _ => False) _).alloc _) (fun h => h), Blk.new (by simp [hg]), ((But.refl _ w).alloc _).alloc _⟩
  rw [← hg]
  generalize ((w.alloc (.cells C 55)).alloc (.cells Z 55)) = W0 at *
  have HI := Hid.mk' hI
  have HG := Hid.mk' hg
  clear hI hg hz HZ HC
  go_loopw [6] (fun i wr => ∃ k : Nat, k ≤ 4 ∧ i = .int .i64 k ∧ ColI w g (part4 bx l k) wr) (fun i _ => 4 - (intOf i).toNat)
  case atStart => exact ⟨0, by decide, rfl, HI.out⟩
  case round =>
    obtain ⟨k, hk, rfl, hI⟩ := hrel
    by_cases hlt : k < 4
    · have hki : (k : Int) < 4 := by omega
      have c1 := blk_nts hI.src k (by rw [part4_len]; exact hlt)
      rw [part4_at _ l k hlt] at c1
      have hfr := hI.src.free k
      have HB2 := Hid.mk' (HB.out.but hI.but (fun h => h))
      have HI2 := Hid.mk' hI
      clear hI HI
      obtain ⟨x, hx⟩ : ∃ x, x = at8 l k := ⟨_, rfl⟩
      rw [← hx] at c1
      have HX := Hid.mk' hx
      clear hx
      go_wp2_with (go_at_call 49; refine Calls.mono (box_any HB2.out x) ?_; rintro e w1 ⟨rfl, hw⟩; have hw' := hw.symm; subst hw')
      refine ⟨⟨k + 1, by omega, by go_num, ?_⟩, by simp [intOf]; omega⟩
      have h := HI2.out
      have hs : But (· = g) wr (wr.setCell ⟨g, k, none⟩ (.int .u8 (b8 (bx x) : Nat))) := (But.refl (· = g) wr).setCell (p := ⟨g, k, none⟩) (fun _ => rfl) _
      refine ⟨?_, h.res.but hs (show ¬ (g + 1 = g) by omega), h.but.then hs (fun i hi e => by have := HG.out; omega)⟩
      rw [← part4_set _ l k hlt, HX.out]
      exact blk_nts_set h.src k _
    · have hk4 : k = 4 := by omega
      subst hk4
      rw [part4_all] at hI
      have HI2 := Hid.mk' hI
      clear hI HI
      obtain ⟨M, hM⟩ : ∃ M, M = map4 bx l := ⟨_, rfl⟩
      have HML : Hid ((nts M).length = 4) := by show _ = _; rw [hM, nts_len]; rfl
      rw [← hM] at HI2
      have HM := Hid.mk' hM
      clear hM
      go_wp2_with (first
        | (refine wpList_load_u8s Try.underlying55 i55 rfl _ rfl g (nts M) HML.out rfl HI2.out.src ?_)
        | (refine wpList_store_u8s i55 rfl _ _ rfl (g + 1) (nts M) HML.out rfl (by exact rfl) _ (by simp [u8s]) HI2.out.res ?_; intro w2 hb2 hbut2))
      refine bodyPost_ret (results_cell_row rfl _ _ (g + 1) _ _ _ _ rfl hb2 Try.underlying55 rfl (by rw [i55]; simp [u8s, HML.out])) rfl ⟨by rw [HM.out], ?_⟩
      exact HI2.out.but.then hbut2 (fun i hi e => by have := HG.out; omega)
set_option maxRecDepth 100000 in
set_option maxHeartbeats 1000000 in
theorem cunboxed_any {w : World} {gb : Nat} {l : List B8} (hb : Bxs w gb) (hl : l.length = 4) :
    Calls Try.prog 35 #[.agg (u8s (nts l)).toArray, .pointer (some ⟨gb, 0, none⟩)] w fun e w' => e = .returned (.agg (u8s (nts (map4 bk l))).toArray) ∧ But (fun _ => False) w w' := by
  have hz := zero4
  obtain ⟨Z, hZ⟩ : ∃ Z, Z = (u8s (List.replicate 4 0)).toArray := ⟨_, rfl⟩
  rw [← hZ] at hz
  obtain ⟨C, hC⟩ : ∃ C, C = (u8s (nts l)).toArray := ⟨_, rfl⟩
  rw [← hC]
  have HZ := Hid.mk' hZ
  have HC := Hid.mk' hC
  have HB := Hid.mk' hb
  clear hZ hC hb
  go_enter Try.func35, Try.ntmps35
  go_wp2
  obtain ⟨g, hg⟩ : ∃ g, g = w.heap.size := ⟨_, rfl⟩
  have hI : ColI w g (part4 bk l 0) ((w.alloc (.cells C 55)).alloc (.cells Z 55)) := by
    rw [HC.out, HZ.out, part4_zero hl]
    refine ⟨(Blk.new hg.symm).but ((But.refl (fun _ => False) _).alloc _) (fun h => h), Blk.new (by simp [hg]), ((But.refl _ w).alloc _).alloc _⟩
  rw [← hg]
  generalize ((w.alloc (.cells C 55)).alloc (.cells Z 55)) = W0 at *
  have HI := Hid.mk' hI
  have HG := Hid.mk' hg
  clear hI hg hz HZ HC
  go_loopw [6] (fun i wr => ∃ k : Nat, k ≤ 4 ∧ i = .int .i64 k ∧ ColI w g (part4 bk l k) wr) (fun i _ => 4 - (intOf i).toNat)
  case atStart => exact ⟨0, by decide, rfl, HI.out⟩
  case round =>
    obtain ⟨k, hk, rfl, hI⟩ := hrel
    by_cases hlt : k < 4
    · have hki : (k : Int) < 4 := by omega
      have c1 := blk_nts hI.src k (by rw [part4_len]; exact hlt)
      rw [part4_at _ l k hlt] at c1
      have hfr := hI.src.free k
      have HB2 := Hid.mk' (HB.out.but hI.but (fun h => h))
      have HI2 := Hid.mk' hI
      clear hI HI
      obtain ⟨x, hx⟩ : ∃ x, x = at8 l k := ⟨_, rfl⟩
      rw [← hx] at c1
      have HX := Hid.mk' hx
      clear hx
      go_wp2_with (go_at_call 50; refine Calls.mono (back_any HB2.out x) ?_; rintro e w1 ⟨rfl, hw⟩; have hw' := hw.symm; subst hw')
      refine ⟨⟨k + 1, by omega, by go_num, ?_⟩, by simp [intOf]; omega⟩
      have h := HI2.out
      have hs : But (· = g) wr (wr.setCell ⟨g, k, none⟩ (.int .u8 (b8 (bk x) : Nat))) := (But.refl (· = g) wr).setCell (p := ⟨g, k, none⟩) (fun _ => rfl) _
      refine ⟨?_, h.res.but hs (show ¬ (g + 1 = g) by omega), h.but.then hs (fun i hi e => by have := HG.out; omega)⟩
      rw [← part4_set _ l k hlt, HX.out]
      exact blk_nts_set h.src k _
    · have hk4 : k = 4 := by omega
      subst hk4
      rw [part4_all] at hI
      have HI2 := Hid.mk' hI
      clear hI HI
      obtain ⟨M, hM⟩ : ∃ M, M = map4 bk l := ⟨_, rfl⟩
      have HML : Hid ((nts M).length = 4) := by show _ = _; rw [hM, nts_len]; rfl
      rw [← hM] at HI2
      have HM := Hid.mk' hM
      clear hM
      go_wp2_with (first
        | (refine wpList_load_u8s Try.underlying55 i55 rfl _ rfl g (nts M) HML.out rfl HI2.out.src ?_)
        | (refine wpList_store_u8s i55 rfl _ _ rfl (g + 1) (nts M) HML.out rfl (by exact rfl) _ (by simp [u8s]) HI2.out.res ?_; intro w2 hb2 hbut2))
      refine bodyPost_ret (results_cell_row rfl _ _ (g + 1) _ _ _ _ rfl hb2 Try.underlying55 rfl (by rw [i55]; simp [u8s, HML.out])) rfl ⟨by rw [HM.out], ?_⟩
      exact HI2.out.but.then hbut2 (fun i hi e => by have := HG.out; omega)
end Go.Proofs.Ytdlalpklopnpjaa
