/- The program's New. -/
import Derived.Test.YtdlalpklopnpjaaFieldGen
import Derived.Test.YtdlalpklopnpjaaLasts
namespace Go.Proofs.Ytdlalpklopnpjaa
open Go.RowKit

/-- What the cells hold of a byte. -/
def Tells (L : List Value) (a : B8) : Prop := L[b8 a]? = some (.int .u8 (b8 (bx a))) ∧ L[256 + b8 (bx a)]? = some (.int .u8 (b8 a)) ∧ L[512 + b8 a]? = some (.int .u32 (col (bx a) : Nat))
theorem told_keeps {L : List Value} {a c : B8} (h : Tells L a) (hn : a ≠ c) : Tells (told L c (bx c)) a := by
  obtain ⟨h0, h1, h2⟩ := h
  have ha := b8_lt a
  have hc := b8_lt c
  have hs := b8_lt (bx a)
  have ht := b8_lt (bx c)
  have n0 : b8 c ≠ b8 a := fun e => hn (b8_inj e.symm)
  have n1 : b8 (bx c) ≠ b8 (bx a) := fun e => hn (bx_inj (b8_inj e.symm))
  unfold told
  refine ⟨?_, ?_, ?_⟩
  · rw [List.getElem?_set_ne (by omega), List.getElem?_set_ne (by omega), List.getElem?_set_ne n0, h0]
  · rw [List.getElem?_set_ne (by omega), List.getElem?_set_ne (by omega), List.getElem?_set_ne (by omega), h1]
  · rw [List.getElem?_set_ne (by omega), List.getElem?_set_ne (by omega), List.getElem?_set_ne (by omega), h2]
theorem told_new {L : List Value} (hl : L.length = 768) (c : B8) : Tells (told L c (bx c)) c := by
  have hc := b8_lt c
  have ht := b8_lt (bx c)
  unfold told
  refine ⟨?_, ?_, ?_⟩
  · rw [List.getElem?_set_ne (by omega), List.getElem?_set_ne (by omega), List.getElem?_set_self (by omega)]
  · rw [List.getElem?_set_ne (by omega), List.getElem?_set_self (by simp; omega)]
  · rw [List.getElem?_set_self (by simp; omega)]
/-- Boxes in memory. -/
def Bxs (w : World) (g : Nat) : Prop := ∃ L, Blk w g 68 L ∧ L.length = 768 ∧ ∀ a, Tells L a
theorem Bxs.but {R : Nat → Prop} {w w' : World} {g : Nat} (h : Bxs w g) (k : But R w w') (hr : ¬ R g) : Bxs w' g := by
  obtain ⟨L, h0, h1, h2⟩ := h
  exact ⟨L, h0.but k hr, h1, h2⟩
theorem Bxs.lt {w : World} {g : Nat} (h : Bxs w g) : g < w.heap.size := by
  obtain ⟨L, h0, _⟩ := h
  exact h0.lt
theorem Bxs.box {w : World} {g : Nat} (h : Bxs w g) (a : B8) : w.cell? ⟨g, b8 a, none⟩ = some (.int .u8 (b8 (bx a))) := by
  obtain ⟨L, h0, _, h2⟩ := h
  rw [h0.cell]; exact (h2 a).1
theorem Bxs.back {w : World} {g : Nat} (h : Bxs w g) (a : B8) : w.cell? ⟨g, 256 + b8 a, none⟩ = some (.int .u8 (b8 (bk a))) := by
  obtain ⟨L, h0, _, h2⟩ := h
  have e := (h2 (bk a)).2.1
  rw [bx_bk] at e
  rw [h0.cell]; exact e
theorem Bxs.mix {w : World} {g : Nat} (h : Bxs w g) (a : B8) : w.cell? ⟨g, 512 + b8 a, none⟩ = some (.int .u32 (col (bx a) : Nat)) := by
  obtain ⟨L, h0, _, h2⟩ := h
  rw [h0.cell]; exact (h2 a).2.2
theorem Bxs.free {w : World} {g : Nat} (h : Bxs w g) (i : Nat) : w.frozen? ⟨g, i, none⟩ = false := by
  obtain ⟨L, h0, _⟩ := h
  exact h0.free i

theorem callSet (args : Array Value) (w : World) : (callFunc 38 args).run Try.prog w = .ok (.enter 38 args) w := by kernel_rfl
def zero768 : List Value := u8s (List.replicate 256 0) ++ (u8s (List.replicate 256 0) ++ List.replicate 256 (.int .u32 0))
theorem zero768_len : zero768.length = 768 := by
  unfold zero768; rw [List.length_append, List.length_append, u8s, List.length_map, List.length_replicate, List.length_replicate]
set_option maxRecDepth 100000 in
set_option maxHeartbeats 1000000 in
theorem new_any (w : World) :
    Calls Try.prog 19 #[] w fun e w' => e = .returned (.pointer (some ⟨w.heap.size, 0, none⟩)) ∧ Bxs w' w.heap.size ∧ But (fun _ => False) w w' := by
  have hz : ∀ w : World, (zeroValue 68).run Try.prog w = .ok (.agg zero768.toArray) w := fun _ => by kernel_rfl
  have hz2 : ∀ w : World, (zeroValue 70).run Try.prog w = .ok (.agg (u8s (List.replicate 255 0)).toArray) w := fun _ => by kernel_rfl
  obtain ⟨Z, hZ⟩ : ∃ Z, Z = zero768.toArray := ⟨_, rfl⟩
  obtain ⟨Y, hY⟩ : ∃ Y, Y = (u8s (List.replicate 255 0)).toArray := ⟨_, rfl⟩
  rw [← hZ] at hz
  rw [← hY] at hz2
  have HZ := Hid.mk' hZ
  have HY := Hid.mk' hY
  clear hZ hY
  have HB0 : Hid (Blk (w.alloc (.cells Z 68)) w.heap.size 68 zero768) := by rw [HZ.out]; exact Blk.new rfl
  have HS := Hid.mk' (set_any HB0.out zero768_len 0#8 0#8)
  rw [show aff 0#8 = bx 0#8 by unfold bx; rw [show inv 0#8 = 0#8 from inv_zero]] at HS
  have HBT0 : Hid (But (fun _ => False) w (w.alloc (.cells Z 68))) := (But.refl _ w).alloc _
  go_enter Try.func19, Try.ntmps19
  go_wp2_with fail
  refine Calls.mono HS.out ?_
  rintro e w1 ⟨rfl, hb1, hbut1⟩
  have HB1 := Hid.mk' hb1
  have HBT1 : Hid (But (fun _ => False) w w1) := HBT0.out.then hbut1 (fun i hi e => by omega)
  clear hb1 hbut1 HS HB0 HBT0 hz HZ
  go_wp2_with fail
  refine Calls.mono (generated_any w1) ?_
  rintro e w2 ⟨rfl, hbut2⟩
  have HB2 := Hid.mk' (HB1.out.but hbut2 (fun h => h))
  have HBT2 := Hid.mk' (HBT1.out.trans hbut2)
  clear hbut2 HB1 HBT1
  obtain ⟨G, hG⟩ : ∃ G, G = (u8s gens).toArray := ⟨_, rfl⟩
  rw [← hG]
  have HG := Hid.mk' hG
  clear hG
  have HP0 : Hid (Blk (w2.alloc (.cells Y 70)) w2.heap.size 70 (u8s (List.replicate 255 0))) := by rw [HY.out]; exact Blk.new rfl
  go_wp2_with (first
    | (refine wpList_store_u8s i255s rfl _ _ rfl w2.heap.size gens gens_len rfl (by show Value.agg G = _; rw [HG.out]) _ (by simp [u8s]) HP0.out ?_; intro w3 hb3 hbut3))
  have hlt2 := HBT2.out.size
  have hgx := HB2.out.lt
  have HB3 : Hid (Blk w3 w.heap.size 68 (told zero768 0#8 (bx 0#8))) := (HB2.out.but ((But.refl (fun _ => False) _).alloc _) (fun h => h)).but hbut3 (by omega)
  have HBT3 : Hid (But (fun _ => False) w w3) := (HBT2.out.alloc _).then hbut3 (fun i hi e => by omega)
  obtain ⟨p, hp⟩ : ∃ p, p = w2.heap.size := ⟨_, rfl⟩
  rw [← hp] at hb3 hlt2 hgx ⊢
  have HP3 := Hid.mk' hb3
  clear hb3 hbut3 hp HP0 HB2 HBT2 hz2 HY HG
  obtain ⟨g, hg⟩ : ∃ g, g = w.heap.size := ⟨_, rfl⟩
  rw [← hg] at HB3 hgx hlt2 ⊢
  have HGG := Hid.mk' hg
  clear hg
  go_loopw [9] (fun i wr => ∃ (k : Nat) (L : List Value), k ≤ 255 ∧ i = .int .i64 k ∧ L.length = 768 ∧ Tells L 0#8 ∧ (∀ j, j < k → Tells L (pw 3#8 j)) ∧ Blk wr g 68 L ∧ Blk wr p 70 (u8s gens) ∧ But (fun _ => False) w wr) (fun i _ => 255 - (intOf i).toNat)
  case atStart => exact ⟨0, told zero768 0#8 (bx 0#8), by decide, rfl, by rw [told_len]; exact zero768_len, told_new zero768_len 0#8, fun j hj => absurd hj (Nat.not_lt_zero _), HB3.out, HP3.out, HBT3.out⟩
  case round =>
    obtain ⟨k, L, hk, rfl, hL, ht0, htj, h0, h1, hbt⟩ := hrel
    have H0 := Hid.mk' h0
    have H1 := Hid.mk' h1
    have HBT := Hid.mk' hbt
    have HT0 := Hid.mk' ht0
    have HTJ := Hid.mk' htj
    have HL := Hid.mk' hL
    clear h0 h1 hbt ht0 htj hL
    by_cases hlt : k < 255
    · have hlti : (k : Int) < 255 := by omega
      obtain ⟨q, hq⟩ : ∃ q, q = (255 - k) % 255 := ⟨_, rfl⟩
      have hq1 : q < 255 := by omega
      obtain ⟨r, hr⟩ : ∃ r, 255 - k = r := ⟨_, rfl⟩
      have hwr : IntKind.i64.wrap (r : Int) = r := by simp [IntKind.wrap, IntKind.bits, IntKind.signed]; omega
      have hsub2 : (255 : Int) - k = r := by omega
      have hrem3 : (r : Int) % 255 = (q : Int) := by omega
      have hrem2 : Int.tmod (r : Int) 255 = (q : Int) := by rw [Int.tmod_eq_emod_of_nonneg (by omega)]; exact hrem3
      have hr2 : r ≤ 255 := by omega
      have hqi : (q : Int) < 255 := by omega
      have hc1 : wr.cell? ⟨p, k, none⟩ = some (.int .u8 (b8 (pw 3#8 k) : Nat)) := by
        rw [H1.out.cell, u8s_get gens k (by rw [gens_len]; exact hlt)]; simp [gens_at k hlt]
      have hc2 : wr.cell? ⟨p, q, none⟩ = some (.int .u8 (b8 (pw 3#8 q) : Nat)) := by
        rw [H1.out.cell, u8s_get gens q (by rw [gens_len]; exact hq1)]; simp [gens_at q hq1]
      have HI : Hid (pw 3#8 q = inv (pw 3#8 k)) := by rw [hq]; exact gen_inv k hlt
      clear hq hr
      have HS : Hid (∀ wx, But (fun _ => False) wr wx → Calls Try.prog 38 #[.pointer (some ⟨g, 0, none⟩), .int .u8 (b8 (pw 3#8 k) : Nat), .int .u8 (b8 (pw 3#8 q) : Nat)] wx fun e w' => e = .returned (.tuple #[]) ∧ Blk w' g 68 (told L (pw 3#8 k) (bx (pw 3#8 k))) ∧ But (· = g) wr w') := by
        intro wx hx
        refine Calls.mono (set_any (H0.out.but hx (fun h => h)) HL.out (pw 3#8 k) (pw 3#8 q)) ?_
        rintro e w' ⟨rfl, h1, h2⟩
        rw [HI.out] at h1
        exact ⟨rfl, h1, (hx.mono (fun _ _ h => h.elim)).trans h2⟩
      have HW : Hid (But (fun _ => False) wr wr) := But.refl _ wr
      go_wp2_with fail
      refine region_last (l := [_, _, _, _, _, _, _, _, _]) (o := _) (by kernel_rfl) (by kernel_rfl) (by kernel_rfl) rfl (by kernel_rfl) (by kernel_rfl) ?_
      repeat (quiet_step (fail))
      refine wpQuiet_nil ?_
      intro _ hw'
      obtain ⟨nq, hw''⟩ := hw'
      subst hw''
      refine op_call 38 [_, _, _] _ _ rfl rfl (callSet _ _) ?_
      refine Calls.mono (HS.out _ (⟨rfl, rfl, rfl, Nat.le_refl _, fun _ _ _ => rfl⟩)) ?_
      rintro e w4 ⟨rfl, hb4, hbut4⟩
      refine ⟨_, rfl, ?_⟩
      clear HS
      go_wp2
      refine ⟨⟨k + 1, told L (pw 3#8 k) (bx (pw 3#8 k)), by omega, by go_num, by rw [told_len]; exact HL.out, ?_, ?_, hb4, H1.out.but hbut4 (by omega), HBT.out.then hbut4 (fun i hi e => by have := HGG.out; omega)⟩, by simp [intOf]; omega⟩
      · by_cases e : (0#8 : B8) = pw 3#8 k
        · rw [← e]; exact told_new HL.out 0#8
        · exact told_keeps HT0.out e
      · intro j hj
        by_cases e : pw 3#8 j = pw 3#8 k
        · rw [e]; exact told_new HL.out _
        · refine told_keeps (HTJ.out j ?_) e
          rcases Nat.lt_or_ge j k with h | h
          · exact h
          · exact absurd (by rw [show j = k by omega]) e
    · have hk5 : k = 255 := by omega
      subst hk5
      go_wp2
      go_ret
      refine ⟨by rw [← HGG.out]; rfl, ⟨L, by rw [← HGG.out]; exact H0.out, HL.out, ?_⟩, HBT.out⟩
      intro a
      by_cases ha : a = 0#8
      · rw [ha]; exact HT0.out
      · obtain ⟨i, hi, rfl⟩ := gen_all a ha
        exact HTJ.out i hi
end Go.Proofs.Ytdlalpklopnpjaa
