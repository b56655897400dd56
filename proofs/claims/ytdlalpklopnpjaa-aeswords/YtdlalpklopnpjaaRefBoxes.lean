/- The reference's boxes. -/
import Derived.Test.YtdlalpklopnpjaaRefEnc
namespace Go.Proofs.Ytdlalpklopnpjaa
open Go.RowKit

theorem i256s : (Try.prog.info? 30).map (·.size) = some 256 := by kernel_rfl
theorem results_cell_row2 {P : Program} {fn : Func} {p p2 : Tmp} {ty ty2 : TypeId} (h : fn.results = #[.cell p ty, .cell p2 ty2]) (tmps : Array Value) (w : World) (g g2 : Nat) (t t2 : TypeId) (cs cs2 : Array Value) (d d2 : TypeDesc)
    (hp : tmps.getD p undef = .pointer (some ⟨g, 0, none⟩)) (hg : w.heap[g]? = some (.cells cs t (0, 0))) (hu : P.underlying ty = some d) (hd : (match d with | .struct _ | .array _ _ => true | _ => false) = true) (hi : (P.info? ty).map (·.size) = some cs.size)
    (hp2 : tmps.getD p2 undef = .pointer (some ⟨g2, 0, none⟩)) (hg2 : w.heap[g2]? = some (.cells cs2 t2 (0, 0))) (hu2 : P.underlying ty2 = some d2) (hd2 : (match d2 with | .struct _ | .array _ _ => true | _ => false) = true) (hi2 : (P.info? ty2).map (·.size) = some cs2.size) :
    (results fn tmps).run P w = .ok (.tuple #[.agg cs, .agg cs2]) w := by
  have hp' : tmps[p]?.getD undef = .pointer (some ⟨g, 0, none⟩) := by simpa using hp
  have hp2' : tmps[p2]?.getD undef = .pointer (some ⟨g2, 0, none⟩) := by simpa using hp2
  simp [results, h, hp', hp2', asAddr, run_loadVar_row w g t ty cs (0, 0) d hg hu hd hi, run_loadVar_row w g2 t2 ty2 cs2 (0, 0) d2 hg2 hu2 hd2 hi2]
theorem allBx_of {D : List Nat} (hl : D.length = 256) (h : ∀ x : B8, D[b8 x]? = some (b8 (bx x))) : D = nts allBx := by
  apply List.ext_getElem?
  intro i
  by_cases hi : i < 256
  · obtain ⟨x, rfl⟩ := b8_get i hi
    rw [h x, nts_at allBx _ (by rw [allBx_len]; exact hi), allBx_at]
  · rw [List.getElem?_eq_none (by omega), List.getElem?_eq_none (by rw [nts_len, allBx_len]; omega)]
theorem allBk_of {D : List Nat} (hl : D.length = 256) (h : ∀ x : B8, D[b8 (bx x)]? = some (b8 x)) : D = nts allBk := by
  apply List.ext_getElem?
  intro i
  by_cases hi : i < 256
  · obtain ⟨x, rfl⟩ := b8_get i hi
    have e := h (bk x)
    rw [bx_bk] at e
    rw [e, nts_at allBk _ (by rw [allBk_len]; exact hi), allBk_at]
  · rw [List.getElem?_eq_none (by omega), List.getElem?_eq_none (by rw [nts_len, allBk_len]; omega)]
/-- What memory is amid boxes, the first k told. -/
structure BoxI (w : World) (g k : Nat) (wr : World) : Prop where
  r1 : Blk wr g 30 (u8s (List.replicate 256 0))
  r2 : Blk wr (g + 1) 30 (u8s (List.replicate 256 0))
  tab : ∃ D E : List Nat, D.length = 256 ∧ E.length = 256 ∧ (∀ x : B8, b8 x < k → D[b8 x]? = some (b8 (bx x)) ∧ E[b8 (bx x)]? = some (b8 x)) ∧ Blk wr (g + 2) 30 (u8s D) ∧ Blk wr (g + 3) 30 (u8s E)
  but : But (fun _ => False) w wr
set_option maxRecDepth 100000 in
set_option maxHeartbeats 1000000 in
theorem rboxes_any (w : World) :
    Calls Try.prog 21 #[] w fun e w' => e = .returned (.tuple #[.agg (u8s (nts allBx)).toArray, .agg (u8s (nts allBk)).toArray]) ∧ But (fun _ => False) w w' := by
  have hz : ∀ w : World, (zeroValue 30).run Try.prog w = .ok (.agg (u8s (List.replicate 256 0)).toArray) w := fun _ => by kernel_rfl
  obtain ⟨Z, hZ⟩ : ∃ Z, Z = (u8s (List.replicate 256 0)).toArray := ⟨_, rfl⟩
  rw [← hZ] at hz
  have HZ := Hid.mk' hZ
  clear hZ
  go_enter Try.func21, Try.ntmps21
  go_wp2
  obtain ⟨g, hg⟩ : ∃ g, g = w.heap.size := ⟨_, rfl⟩
  have hI : BoxI w g 0 ((((w.alloc (.cells Z 30)).alloc (.cells Z 30)).alloc (.cells Z 30)).alloc (.cells Z 30)) := by
    rw [HZ.out]
    have al : ∀ (x : World) (o : Obj), But (fun _ => False) x (x.alloc o) := fun x o => (But.refl _ x).alloc o
    refine ⟨?_, ?_, ⟨List.replicate 256 0, List.replicate 256 0, by simp, by simp, fun x h => absurd h (Nat.not_lt_zero _), ?_, ?_⟩, (((((But.refl _ w).alloc _).alloc _).alloc _).alloc _)⟩
    · exact (((Blk.new hg.symm).but (al _ _) (fun h => h)).but (al _ _) (fun h => h)).but (al _ _) (fun h => h)
    · exact ((Blk.new (by simp [hg])).but (al _ _) (fun h => h)).but (al _ _) (fun h => h)
    · exact (Blk.new (by simp [hg])).but (al _ _) (fun h => h)
    · exact Blk.new (by simp [hg])
  rw [← hg, show g + 1 + 1 + 1 = g + 3 from rfl, show g + 1 + 1 = g + 2 from rfl]
  generalize ((((w.alloc (.cells Z 30)).alloc (.cells Z 30)).alloc (.cells Z 30)).alloc (.cells Z 30)) = W0 at *
  have HI := Hid.mk' hI
  have HG := Hid.mk' hg
  clear hI hg hz HZ
  go_loopw [4] (fun i wr => ∃ k : Nat, k ≤ 256 ∧ i = .int .i64 k ∧ BoxI w g k wr) (fun i _ => 256 - (intOf i).toNat)
  case atStart => exact ⟨0, by decide, rfl, HI.out⟩
  case round =>
    obtain ⟨k, hk, rfl, hI⟩ := hrel
    have HI := Hid.mk' hI
    clear hI
    by_cases hlt : k < 256
    · obtain ⟨I, rfl⟩ := b8_get k hlt
      have hlti : (b8 I : Int) < 256 := by omega
      obtain ⟨D, E, hD, hE, hx, h2, h3⟩ := HI.out.tab
      have f2 := h2.free (b8 I)
      have f3 := h3.free (b8 (bx I))
      have hs := b8_lt (bx I)
      have c2 := h2.cell (b8 I)
      rw [u8s_get D _ (by rw [hD]; exact hlt)] at c2
      have c3 := h3.cell (b8 (bx I))
      rw [u8s_get E _ (by rw [hE]; exact hs)] at c3
      have H2 := Hid.mk' h2
      have H3 := Hid.mk' h3
      have HD := Hid.mk' hD
      have HE := Hid.mk' hE
      have HX := Hid.mk' hx
      clear h2 h3 hD hE hx
      go_wp2_with fail
      refine Calls.mono (rbox_any I wr) ?_
      rintro e w1 ⟨rfl, hw⟩
      have hw' := hw.symm
      subst hw'
      go_wp2
      obtain ⟨W1, hW1⟩ : ∃ W1, W1 = wr.setCell ⟨g + 2, b8 I, none⟩ (.int .u8 (b8 (bx I) : Nat)) := ⟨_, rfl⟩
      rw [← hW1]
      have k1 : But (· = g + 2) wr W1 := by rw [hW1]; exact (But.refl (· = g + 2) wr).setCell (p := ⟨g + 2, b8 I, none⟩) (fun _ => rfl) _
      have k2 : But (· = g + 3) W1 (W1.setCell ⟨g + 3, b8 (bx I), none⟩ (.int .u8 (b8 I : Nat))) := (But.refl (· = g + 3) W1).setCell (p := ⟨g + 3, b8 (bx I), none⟩) (fun _ => rfl) _
      have hgg := HG.out
      refine ⟨⟨b8 I + 1, by omega, by go_num, ⟨(HI.out.r1.but k1 (show ¬ (g = g + 2) by omega)).but k2 (show ¬ (g = g + 3) by omega), (HI.out.r2.but k1 (show ¬ (g + 1 = g + 2) by omega)).but k2 (show ¬ (g + 1 = g + 3) by omega), ⟨D.set (b8 I) (b8 (bx I)), E.set (b8 (bx I)) (b8 I), by simp [HD.out], by simp [HE.out], ?_, ?_, ?_⟩, (HI.out.but.then k1 (fun i hi e => by omega)).then k2 (fun i hi e => by omega)⟩⟩, by simp [intOf]; omega⟩
      · intro x hx
        by_cases e : x = I
        · subst e
          exact ⟨List.getElem?_set_self (by rw [HD.out]; exact hlt), List.getElem?_set_self (by rw [HE.out]; exact hs)⟩
        · have n1 : b8 I ≠ b8 x := fun h => e (b8_inj h.symm)
          have n2 : b8 (bx I) ≠ b8 (bx x) := fun h => e (bx_inj (b8_inj h.symm))
          rw [List.getElem?_set_ne n1, List.getElem?_set_ne n2]
          exact HX.out x (by omega)
      · rw [← u8s_set]
        have h : Blk W1 (g + 2) 30 ((u8s D).set (b8 I) (.int .u8 (b8 (bx I) : Nat))) := by rw [hW1]; exact H2.out.set _ _
        exact h.but k2 (show ¬ (g + 2 = g + 3) by omega)
      · rw [← u8s_set]
        exact (H3.out.but k1 (show ¬ (g + 3 = g + 2) by omega)).set _ _
    · have hk6 : k = 256 := by omega
      subst hk6
      obtain ⟨D, E, hD, hE, hx, h2, h3⟩ := HI.out.tab
      obtain rfl := allBx_of hD (fun x => (hx x (b8_lt x)).1)
      obtain rfl := allBk_of hE (fun x => (hx x (b8_lt x)).2)
      have r1 := HI.out.r1
      have r2 := HI.out.r2
      have hbt := HI.out.but
      have hgg := HG.out
      clear hx HI
      obtain ⟨X, hX⟩ : ∃ X, X = nts allBx := ⟨_, rfl⟩
      obtain ⟨Y, hY⟩ : ∃ Y, Y = nts allBk := ⟨_, rfl⟩
      rw [← hX] at h2 hD
      rw [← hY] at h3 hE
      have HX := Hid.mk' hX
      have HY := Hid.mk' hY
      have H2 := Hid.mk' h2
      have H3 := Hid.mk' h3
      have R1 := Hid.mk' r1
      have R2 := Hid.mk' r2
      have HBT := Hid.mk' hbt
      have HD := Hid.mk' hD
      have HE := Hid.mk' hE
      have HGG := Hid.mk' hgg
      clear hX hY h2 h3 r1 r2 hbt hD hE hgg
      go_wp2
      refine region_inv (by kernel_rfl) (by kernel_rfl) (by kernel_rfl) (fun l a wx => ∃ (l0 l1 l2 l3 : Bool) (y20 y21 : Value), l = [l0, l1, l2, l3] ∧
        a = ⟨#[.pointer (some ⟨g, 0, none⟩), .pointer (some ⟨g + 1, 0, none⟩), .pointer (some ⟨g + 2, 0, none⟩), .pointer (some ⟨g + 3, 0, none⟩), .int .i64 (256 : Nat), u5, .int .i64 (256 : Nat), .bool false, u8, u9, u10, u11, u12, u13, u14, u15, u16, u17, u18, u19, y20, y21], []⟩ ∧
        (l0 = true → y20 = .agg (u8s X).toArray) ∧ (l1 = true → y21 = .agg (u8s Y).toArray) ∧ Blk wx (g + 2) 30 (u8s X) ∧ Blk wx (g + 3) 30 (u8s Y) ∧
        (l2 = false → Blk wx g 30 (u8s (List.replicate 256 0))) ∧ (l2 = true → Blk wx g 30 (u8s X)) ∧
        (l3 = false → Blk wx (g + 1) 30 (u8s (List.replicate 256 0))) ∧ (l3 = true → Blk wx (g + 1) 30 (u8s Y)) ∧ But (fun _ => False) w wx) ?_ ?_ ?_
      · exact ⟨false, false, false, false, undef, undef, rfl, rfl, nofun, nofun, H2.out, H3.out, fun _ => R1.out, nofun, fun _ => R2.out, nofun, HBT.out.drew⟩
      · rintro l a wx i o ⟨l0, l1, l2, l3, y20, y21, rfl, rfl, e0, e1, h2, h3, p1, p2, p3, p4, hb⟩ hf hd hi ho
        have hgg := HGG.out
        match i, hi with
        | 0, _ =>
          obtain rfl := Option.some.inj ho
          refine op_load_u8s Try.underlying30 i256s _ rfl (g + 2) X HD.out rfl h2 ?_
          exact ⟨true, l1, l2, l3, _, y21, rfl, rfl, fun _ => rfl, e1, h2, h3, p1, p2, p3, p4, hb⟩
        | 1, _ =>
          obtain rfl := Option.some.inj ho
          refine op_load_u8s Try.underlying30 i256s _ rfl (g + 3) Y HE.out rfl h3 ?_
          exact ⟨l0, true, l2, l3, y20, _, rfl, rfl, e0, fun _ => rfl, h2, h3, p1, p2, p3, p4, hb⟩
        | 2, _ =>
          obtain rfl := Option.some.inj ho
          obtain rfl : l0 = true := by simp [Region.binds] at hd; exact hd
          obtain rfl : l2 = false := by simpa using hf
          obtain rfl := e0 rfl
          refine op_store_u8s i256s _ _ rfl g X HD.out rfl rfl _ (by simp [u8s]) (p1 rfl) ?_
          intro w9 hb9 hbut9
          exact ⟨true, l1, true, l3, _, y21, rfl, rfl, e0, e1, h2.but hbut9 (show ¬ (g + 2 = g) by omega), h3.but hbut9 (show ¬ (g + 3 = g) by omega), nofun, fun _ => hb9, fun e => (p3 e).but hbut9 (show ¬ (g + 1 = g) by omega), fun e => (p4 e).but hbut9 (show ¬ (g + 1 = g) by omega), hb.then hbut9 (fun i hi e => by omega)⟩
        | 3, _ =>
          obtain rfl := Option.some.inj ho
          obtain rfl : l1 = true := by simp [Region.binds] at hd; exact hd.1
          obtain rfl : l3 = false := by simpa using hf
          obtain rfl := e1 rfl
          refine op_store_u8s i256s _ _ rfl (g + 1) Y HE.out rfl rfl _ (by simp [u8s]) (p3 rfl) ?_
          intro w9 hb9 hbut9
          exact ⟨l0, true, l2, true, y20, _, rfl, rfl, e0, e1, h2.but hbut9 (show ¬ (g + 2 = g + 1) by omega), h3.but hbut9 (show ¬ (g + 3 = g + 1) by omega), fun e => (p1 e).but hbut9 (show ¬ (g = g + 1) by omega), fun e => (p2 e).but hbut9 (show ¬ (g = g + 1) by omega), nofun, fun _ => hb9, hb.then hbut9 (fun i hi e => by omega)⟩
        | n + 4, h => exact absurd h (by simp)
      · rintro a wx ⟨l0, l1, l2, l3, y20, y21, hl, rfl, e0, e1, h2, h3, p1, p2, p3, p4, hb⟩
        obtain ⟨rfl, rfl, rfl, rfl⟩ : l0 = true ∧ l1 = true ∧ l2 = true ∧ l3 = true := by
          simpa [List.replicate, eq_comm] using hl
        have q2 := p2 rfl
        have q4 := p4 rfl
        clear h2 h3 p1 p2 p3 p4 e0 e1 hl
        go_wp2
        refine bodyPost_ret (results_cell_row2 rfl _ _ g (g + 1) _ _ _ _ _ _ rfl q2 Try.underlying30 rfl (by rw [i256s]; simp [u8s, HD.out]) rfl q4 Try.underlying30 rfl (by rw [i256s]; simp [u8s, HE.out])) rfl ⟨by rw [HX.out, HY.out], hb⟩
end Go.Proofs.Ytdlalpklopnpjaa
