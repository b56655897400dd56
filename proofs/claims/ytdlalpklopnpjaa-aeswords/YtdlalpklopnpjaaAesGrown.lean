/- The program's grown: what a word of a key leaves in the next one. -/
import Derived.Test.YtdlalpklopnpjaaAesBox
import Derived.Test.YtdlalpklopnpjaaFieldPower
import Derived.Test.YtdlalpklopnpjaaLasts
import Derived.Deep.Cut
namespace Go.Proofs.Ytdlalpklopnpjaa
open Go.RowKit

theorem num_two : (b8 2#8 : Int) = 2 := by decide
set_option maxRecDepth 100000 in
set_option maxHeartbeats 1000000 in
theorem grown_any {w : World} {gb : Nat} {l : List B8} {i n : Nat} (hb : Bxs w gb) (hl : l.length = 4) (hn : n = 4 ∨ n = 8) (hi : n ≤ i) (hi2 : i < 60) :
    Calls Try.prog 42 #[.agg (u8s (nts l)).toArray, .int .i64 i, .int .i64 n, .pointer (some ⟨gb, 0, none⟩)] w fun e w' => e = .returned (.agg (u8s (nts (turned n i l))).toArray) ∧ But (fun _ => False) w w' := by
  obtain ⟨C, hC⟩ : ∃ C, C = (u8s (nts l)).toArray := ⟨_, rfl⟩
  rw [← hC]
  have HC := Hid.mk' hC
  have HB := Hid.mk' hb
  obtain ⟨g, hg⟩ : ∃ g, g = w.heap.size := ⟨_, rfl⟩
  obtain ⟨W0, hW0⟩ : ∃ W0, W0 = ((w.alloc (.cells C 55)).alloc (.cells #[.int .u8 0, .int .u8 0, .int .u8 0, .int .u8 0] 55)) := ⟨_, rfl⟩
  have hI : ColI w g l W0 := by
    rw [hW0, HC.out]
    exact ⟨(Blk.new hg.symm).but ((But.refl (fun _ => False) _).alloc _) (fun h => h), Blk.new (L := u8s (List.replicate 4 0)) (by simp [hg]), ((But.refl _ w).alloc _).alloc _⟩
  have HI := Hid.mk' hI
  have HG := Hid.mk' hg
  have HW0 := Hid.mk' hW0
  have HLN : Hid ((nts l).length = 4) := by show _ = _; rw [nts_len]; exact hl
  have HLU : Hid ((u8s (nts l)).length = 4) := by show _ = _; unfold u8s; rw [List.length_map]; exact HLN.out
  have HL := Hid.mk' hl
  have HB0 := Hid.mk' (hb.but hI.but (fun h => h))
  have hc : ∀ j, j < 4 → W0.cell? ⟨g, j, none⟩ = some (.int .u8 (b8 (at8 l j) : Nat)) := fun j hj => blk_nts hI.src j (by omega)
  have c0 := hc 0 (by decide)
  have c1 := hc 1 (by decide)
  have c2 := hc 2 (by decide)
  have c3 := hc 3 (by decide)
  clear hC hb hI hg hl hc
  rw [hW0, HG.out] at c0 c1 c2 c3
  clear hW0
  obtain ⟨r, hr⟩ : ∃ r, r = i % n := ⟨_, rfl⟩
  obtain ⟨q, hq⟩ : ∃ q, q = i / n - 1 := ⟨_, rfl⟩
  have hn0 : 0 < n := by omega
  have hq9 : q ≤ 14 := by
    rw [hq]
    rcases hn with h | h <;> subst h <;> omega
  have w1 : Int.tmod (i : Int) (n : Int) = (r : Int) := by rw [Int.tmod_eq_emod_of_nonneg (by omega), hr]; simp
  have w2 : Int.tdiv (i : Int) (n : Int) = ((q + 1 : Nat) : Int) := by
    rw [Int.tdiv_eq_ediv_of_nonneg (by omega), hq]
    have h1 : 1 ≤ i / n := (Nat.le_div_iff_mul_le hn0).2 (by omega)
    rw [show i / n - 1 + 1 = i / n by omega]; simp
  obtain ⟨m, hm⟩ : ∃ m, m = q + 1 := ⟨_, rfl⟩
  rw [← hm] at w2
  have w3 : IntKind.i64.wrap (m : Int) = (m : Int) := by simp [IntKind.wrap, IntKind.bits, IntKind.signed]; omega
  have w4 : IntKind.i64.wrap ((m : Int) - 1) = (q : Int) := by simp [IntKind.wrap, IntKind.bits, IntKind.signed]; omega
  have HPW : Hid (∀ w, Calls Try.prog 59 #[.int .u8 2, .int .i64 (q : Int)] w fun e w' => e = .returned (.int .u8 (b8 (pw 2#8 q))) ∧ w' = w) := by
    intro w
    have h := power_any 2#8 (q : Int) (by omega) w
    rw [num_two] at h
    exact h
  have hnz : ((n : Int) == 0) = false := by simp; omega
  have hnz2 : ¬ (n : Int) = 0 := by omega
  have hnz3 : ¬ n = 0 := by omega
  by_cases h0 : r = 0
  · have HT : Hid (turned n i l = [bx (at8 l 1) ^^^ pw 2#8 q, bx (at8 l 2), bx (at8 l 3), bx (at8 l 0)]) := by
      show _ = _
      unfold turned
      rw [if_pos (by omega), hq]
    have hr0 : ((r : Int) == 0) = true := by simp [h0]
    subst h0
    clear hr hq hm
    go_enter Try.func42, Try.ntmps42
    go_wp2_with fail
    rw [← HW0.out, ← HG.out]
    have HCB := Hid.mk' (cboxed_any (l := [at8 l 1, at8 l 2, at8 l 3, at8 l 0]) HB0.out rfl)
    refine Calls.mono HCB.out ?_
    rintro e w1 ⟨rfl, hb1⟩
    obtain ⟨M, hM⟩ : ∃ M, M = map4 bx [at8 l 1, at8 l 2, at8 l 3, at8 l 0] := ⟨_, rfl⟩
    rw [← hM]
    have HMN : Hid ((nts M).length = 4) := by show _ = _; rw [hM]; rfl
    have HI1 : Hid (ColI w g l w1) := ⟨HI.out.src.but hb1 (fun h => h), HI.out.res.but hb1 (fun h => h), HI.out.but.trans hb1⟩
    have HM := Hid.mk' hM
    clear hM hb1 HCB HI HW0 HB0 c0 c1 c2 c3 HB
    go_upto_region 3 with (refine wpList_store_u8s i55 rfl _ _ rfl g (nts M) HMN.out rfl (by exact rfl) _ HLU.out HI1.out.src ?_; intro w2 hb2 hbut2)
    have HI2 : Hid (ColI w g M w2) := ⟨hb2, HI1.out.res.but hbut2 (show ¬ (g + 1 = g) by omega), HI1.out.but.then hbut2 (fun i hi e => by have := HG.out; omega)⟩
    have c0 := blk_nts HI2.out.src 0 (by rw [HM.out]; exact Nat.zero_lt_succ _)
    have hf0 := HI2.out.src.free 0
    clear hb2 hbut2 HI1
    have hx := xor_b8 (bx (at8 l 1)) (pw 2#8 q)
    rw [show at8 M 0 = bx (at8 l 1) by rw [HM.out]; rfl] at c0
    obtain ⟨X, hX⟩ : ∃ X, X = bx (at8 l 1) := ⟨_, rfl⟩
    obtain ⟨Y, hY⟩ : ∃ Y, Y = pw 2#8 q := ⟨_, rfl⟩
    rw [← hX] at hx c0
    rw [← hY] at hx HPW
    have HXE := Hid.mk' hX
    have HYE := Hid.mk' hY
    clear hX hY
    refine region_ends (l := [_, _, _, _, _, _, _, _, _]) (o := _) (by kernel_rfl) (by kernel_rfl) (by kernel_rfl) rfl (by kernel_rfl) (by kernel_rfl) ?_
    repeat (quiet_step ((go_at_call 59; exact Calls.quiet_of_same (HPW.out _))))
    refine wpQuiet_nil ?_
    intro _ hw'
    obtain ⟨nq, hw''⟩ := hw'
    subst hw''
    obtain ⟨R, hR⟩ : ∃ R, R = M.set 0 (X ^^^ Y) := ⟨_, rfl⟩
    have HRE : Hid (turned n i l = R) := by show _ = _; rw [HT.out, hR, HM.out, ← HXE.out, ← HYE.out]; rfl
    have HRN : Hid ((nts R).length = 4) := by show _ = _; rw [hR, nts_len, List.length_set, HM.out]; rfl
    have HN3 : Hid (But (fun _ => False) w2 (w2.drewN nq)) := (But.refl _ w2).drewN
    have HB3 : Hid (Blk ((w2.drewN nq).setCell ⟨g, 0, none⟩ (.int .u8 (b8 (X ^^^ Y) : Nat))) g 55 (u8s (nts R))) := by
      show Blk _ _ _ _
      rw [hR]
      exact blk_nts_set (HI2.out.src.but HN3.out (fun h => h)) 0 _
    have HT3 : Hid (But (· = g) w2 ((w2.drewN nq).setCell ⟨g, 0, none⟩ (.int .u8 (b8 (X ^^^ Y) : Nat)))) := ((But.refl (· = g) w2).drewN (n := nq)).setCell (p := ⟨g, 0, none⟩) (fun _ => rfl) _
    have HR3 := Hid.mk' (HI2.out.res.but HT3.out (show ¬ (g + 1 = g) by omega))
    clear hR
    go_wp2_with (first
      | (refine wpList_load_u8s Try.underlying55 i55 rfl _ rfl g (nts R) HRN.out rfl HB3.out ?_)
      | (refine wpList_store_u8s i55 rfl _ _ rfl (g + 1) (nts R) HRN.out rfl (by exact rfl) _ (by simp [u8s]) HR3.out ?_; intro w4 hb4 hbut4))
    refine bodyPost_ret (results_cell_row rfl _ _ (g + 1) _ _ _ _ rfl hb4 Try.underlying55 rfl (by rw [i55]; simp [u8s, HRN.out])) rfl ⟨by rw [HRE.out], ?_⟩
    exact (HI2.out.but.then HT3.out (fun i hi e => by have := HG.out; omega)).then hbut4 (fun i hi e => by have := HG.out; omega)
  · have hr0 : ((r : Int) == 0) = false := by simp; exact h0
    have hr1 : ¬ (r : Int) = 0 := by omega
    by_cases h8 : n = 8 ∧ r = 4
    · have HT : Hid (turned n i l = map4 bx l) := by
        show _ = _
        unfold turned
        rw [if_neg (by rw [← hr]; exact h0), if_pos ⟨h8.1, by have := h8.2; rw [hr, h8.1] at this; exact this⟩]; rfl
      obtain ⟨h8a, h8b⟩ := h8
      have hn8 : ((n : Int) == 8) = true := by simp [h8a]
      have hr4 : ((r : Int) == 4) = true := by simp [h8b]
      clear hr hq hm h0 w2 w3 w4 HPW c0 c1 c2 c3 hr1 h8a h8b
      have HS0 : Hid (Blk ((w.alloc (.cells C 55)).alloc (.cells #[.int .u8 0, .int .u8 0, .int .u8 0, .int .u8 0] 55)) w.heap.size 55 (u8s (nts l))) := by show Blk _ _ _ _; rw [← HW0.out, ← HG.out]; exact HI.out.src
      go_enter Try.func42, Try.ntmps42
      go_wp2_with (first
        | (refine wpList_load_u8s Try.underlying55 i55 rfl _ rfl w.heap.size (nts l) HLN.out rfl HS0.out ?_)
        | fail)
      rw [← HW0.out, ← HG.out]
      refine Calls.mono (cboxed_any HB0.out HL.out) ?_
      rintro e w1 ⟨rfl, hb1⟩
      obtain ⟨R, hR⟩ : ∃ R, R = map4 bx l := ⟨_, rfl⟩
      rw [← hR]
      have HRE : Hid (turned n i l = R) := by show _ = _; rw [HT.out, hR]
      have HRN : Hid ((nts R).length = 4) := by show _ = _; rw [hR]; rfl
      have HI1 : Hid (ColI w g l w1) := ⟨HI.out.src.but hb1 (fun h => h), HI.out.res.but hb1 (fun h => h), HI.out.but.trans hb1⟩
      clear hR hb1 HI HW0 HB0 HB HS0
      go_upto_region 6 with (refine wpList_store_u8s i55 rfl _ _ rfl g (nts R) HRN.out rfl (by exact rfl) _ HLU.out HI1.out.src ?_; intro w2 hb2 hbut2)
      have HB2 := Hid.mk' hb2
      have HR2 := Hid.mk' (HI1.out.res.but hbut2 (show ¬ (g + 1 = g) by omega))
      have HT2 := Hid.mk' hbut2
      clear hb2 hbut2
      go_wp2_with (first
        | (refine wpList_load_u8s Try.underlying55 i55 rfl _ rfl g (nts R) HRN.out rfl HB2.out ?_)
        | (refine wpList_store_u8s i55 rfl _ _ rfl (g + 1) (nts R) HRN.out rfl (by exact rfl) _ (by simp [u8s]) HR2.out ?_; intro w4 hb4 hbut4))
      refine bodyPost_ret (results_cell_row rfl _ _ (g + 1) _ _ _ _ rfl hb4 Try.underlying55 rfl (by rw [i55]; simp [u8s, HRN.out])) rfl ⟨by rw [HRE.out], ?_⟩
      exact (HI1.out.but.then HT2.out (fun i hi e => by have := HG.out; omega)).then hbut4 (fun i hi e => by have := HG.out; omega)
    · have HRE : Hid (turned n i l = l) := by
        show _ = _
        unfold turned
        rw [if_neg (by rw [← hr]; exact h0), if_neg (fun h => h8 ⟨h.1, by have := h.2; rw [hr, h.1]; exact this⟩)]
      have hS0 : Blk ((w.alloc (.cells C 55)).alloc (.cells #[.int .u8 0, .int .u8 0, .int .u8 0, .int .u8 0] 55)) w.heap.size 55 (u8s (nts l)) := by rw [← HW0.out, ← HG.out]; exact HI.out.src
      have HS0 := Hid.mk' hS0
      have hR0 : Blk ((w.alloc (.cells C 55)).alloc (.cells #[.int .u8 0, .int .u8 0, .int .u8 0, .int .u8 0] 55)) (w.heap.size + 1) 55 (u8s (List.replicate 4 0)) := by rw [← HW0.out, ← HG.out]; exact HI.out.res
      have HR0 := Hid.mk' hR0
      clear hr hq hm w2 w3 w4 HPW c0 c1 c2 c3 hS0 hR0
      have fin : ∀ w4, But (· = w.heap.size + 1) ((w.alloc (.cells C 55)).alloc (.cells #[.int .u8 0, .int .u8 0, .int .u8 0, .int .u8 0] 55)) w4 → But (fun _ => False) w w4 := fun w4 hb => (by rw [← HW0.out] at hb; exact HI.out.but.then hb (fun i hi e => by omega))
      have HFIN := Hid.mk' fin
      clear fin
      by_cases h88 : n = 8
      · have h4' : ((r : Int) == 4) = false := by simp; omega
        have hn8 : ((n : Int) == 8) = true := by simp [h88]
        clear h8 h88 hr1 h0
        go_enter Try.func42, Try.ntmps42
        go_wp2_with (first
          | (refine wpList_load_u8s Try.underlying55 i55 rfl _ rfl w.heap.size (nts l) HLN.out rfl HS0.out ?_)
          | (refine wpList_store_u8s i55 rfl _ _ rfl (w.heap.size + 1) (nts l) HLN.out rfl (by exact rfl) _ (by simp [u8s]) HR0.out ?_; intro w4 hb4 hbut4))
        exact bodyPost_ret (results_cell_row rfl _ _ (w.heap.size + 1) _ _ _ _ rfl hb4 Try.underlying55 rfl (by rw [i55]; simp [u8s, HLN.out])) rfl ⟨by rw [HRE.out], HFIN.out _ hbut4⟩
      · have h8' : ((n : Int) == 8) = false := by simp; omega
        clear h8 h88 hr1 h0
        go_enter Try.func42, Try.ntmps42
        go_wp2_with (first
          | (refine wpList_load_u8s Try.underlying55 i55 rfl _ rfl w.heap.size (nts l) HLN.out rfl HS0.out ?_)
          | (refine wpList_store_u8s i55 rfl _ _ rfl (w.heap.size + 1) (nts l) HLN.out rfl (by exact rfl) _ (by simp [u8s]) HR0.out ?_; intro w4 hb4 hbut4))
        exact bodyPost_ret (results_cell_row rfl _ _ (w.heap.size + 1) _ _ _ _ rfl hb4 Try.underlying55 rfl (by rw [i55]; simp [u8s, HLN.out])) rfl ⟨by rw [HRE.out], HFIN.out _ hbut4⟩
end Go.Proofs.Ytdlalpklopnpjaa
