/- The program's turned and turnedBack: states of four columns, as sixteen bytes. -/
import Derived.Test.YtdlalpklopnpjaaAesMix
import Derived.Test.YtdlalpklopnpjaaLasts
namespace Go.Proofs.Ytdlalpklopnpjaa
open Go.RowKit

theorem wrapI (n : Int) (h1 : -9223372036854775808 ≤ n) (h2 : n < 9223372036854775808) : IntKind.i64.wrap n = n := by
  simp [IntKind.wrap, IntKind.bits, IntKind.signed]; omega
def fwdI (i : Nat) : Nat := 4 * ((i / 4 + i % 4) % 4) + i % 4
def backI (i : Nat) : Nat := 4 * ((i / 4 + (4 - i % 4)) % 4) + i % 4
theorem fwdI_lt : ∀ i, i < 16 → fwdI i < 16 := by decide
theorem backI_lt : ∀ i, i < 16 → backI i < 16 := by decide
theorem back_fwdI : ∀ i, i < 16 → backI (fwdI i) = i := by decide
theorem fwd_backI : ∀ i, i < 16 → fwdI (backI i) = i := by decide
def turnS (s : List B8) : List B8 := mk16 fun i => at8 s (fwdI i)
def untS (s : List B8) : List B8 := mk16 fun i => at8 s (backI i)
theorem turnS_len (s : List B8) : (turnS s).length = 16 := mk16_len _
theorem untS_len (s : List B8) : (untS s).length = 16 := mk16_len _
/-- The places whose number q tells is below m are filled. -/
def fill (q : Nat → Nat) (v : Nat → B8) (m : Nat) : List B8 := mk16 fun j => if q j < m then v j else 0
theorem fill_len (q : Nat → Nat) (v : Nat → B8) (m : Nat) : (fill q v m).length = 16 := mk16_len _
theorem rep_at (i : Nat) (hi : i < 16) : at8 (List.replicate 16 (0 : B8)) i = 0 := by unfold at8 List.getD; rw [List.getElem?_replicate, if_pos hi]; rfl
theorem fill_zero (q : Nat → Nat) (v : Nat → B8) : fill q v 0 = List.replicate 16 0 := by
  refine at8_ext (fill_len _ _ _) (by simp) (fun i hi => ?_)
  rw [rep_at i hi]
  unfold fill
  rw [mk16_at _ i hi, if_neg (Nat.not_lt_zero _)]
theorem fill_all {q : Nat → Nat} (hq : ∀ j, j < 16 → q j < 16) (v : Nat → B8) : fill q v 16 = mk16 v := by
  refine at8_ext (fill_len _ _ _) (mk16_len _) (fun i hi => ?_)
  unfold fill
  rw [mk16_at _ i hi, mk16_at _ i hi, if_pos (hq i hi)]
theorem fill_set {q : Nat → Nat} (v : Nat → B8) (m p : Nat) (hp : p < 16) (hqp : q p = m) (hne : ∀ j, j < 16 → q j = m → j = p) : (fill q v m).set p (v p) = fill q v (m + 1) := by
  refine at8_ext (by rw [List.length_set]; exact fill_len _ _ _) (fill_len _ _ _) (fun i hi => ?_)
  rw [at8_set _ _ _ _ (by rw [fill_len]; exact hp)]
  unfold fill
  rw [mk16_at _ i hi, mk16_at _ i hi]
  by_cases h : i = p
  · subst h; rw [if_pos rfl, if_pos (by omega)]
  · rw [if_neg h]
    by_cases h2 : q i < m
    · rw [if_pos h2, if_pos (by omega)]
    · have : q i ≠ m := fun e => h (hne i hi e)
      rw [if_neg h2, if_neg (by omega)]
theorem i57 : (Try.prog.info? 57).map (·.size) = some 16 := by kernel_rfl
theorem zeroS (w : World) : (zeroValue 57).run Try.prog w = .ok (.agg (u8s (List.replicate 16 0)).toArray) w := by kernel_rfl
theorem nts_rep : nts (List.replicate 16 (0 : B8)) = List.replicate 16 0 := by decide
theorem u16l (l : List B8) (h : l.length = 16) : (u8s (nts l)).length = 16 := by unfold u8s; rw [List.length_map, nts_len]; exact h
/-- What memory is amid a turn. -/
structure TurnI (w : World) (g : Nat) (s t : List B8) (wr : World) : Prop where
  src : Blk wr g 57 (u8s (nts s))
  res : Blk wr (g + 1) 57 (u8s (List.replicate 16 0))
  dst : Blk wr (g + 2) 57 (u8s (nts t))
  but : But (fun _ => False) w wr
set_option maxRecDepth 100000 in
set_option maxHeartbeats 1000000 in
theorem turned_any {w : World} {s : List B8} (hs : s.length = 16) :
    Calls Try.prog 28 #[.agg (u8s (nts s)).toArray] w fun e w' => e = .returned (.agg (u8s (nts (turnS s))).toArray) ∧ But (fun _ => False) w w' := by
  have hz := zeroS
  obtain ⟨Z, hZ⟩ : ∃ Z, Z = (u8s (List.replicate 16 0)).toArray := ⟨_, rfl⟩
  rw [← hZ] at hz
  obtain ⟨C, hC⟩ : ∃ C, C = (u8s (nts s)).toArray := ⟨_, rfl⟩
  rw [← hC]
  have HZ := Hid.mk' hZ
  have HC := Hid.mk' hC
  clear hZ hC
  obtain ⟨q, hq⟩ : ∃ q : Nat → Nat, q = (fun j => j) := ⟨_, rfl⟩
  obtain ⟨v, hv⟩ : ∃ v : Nat → B8, v = fun j => at8 s (fwdI j) := ⟨_, rfl⟩
  have HQ := Hid.mk' hq
  have HV := Hid.mk' hv
  clear hq hv
  go_enter Try.func28, Try.ntmps28
  go_wp2
  obtain ⟨g, hg⟩ : ∃ g, g = w.heap.size := ⟨_, rfl⟩
  have hI : TurnI w g s (fill q v (4 * 0)) (((w.alloc (.cells C 57)).alloc (.cells Z 57)).alloc (.cells Z 57)) := by
    rw [HC.out, HZ.out, fill_zero]
    have al : ∀ (x : World) (o : Obj), But (fun _ => False) x (x.alloc o) := fun x o => (But.refl _ x).alloc o
    exact ⟨((Blk.new hg.symm).but (al _ _) (fun h => h)).but (al _ _) (fun h => h), (Blk.new (by simp [hg])).but (al _ _) (fun h => h), by rw [nts_rep]; exact Blk.new (by simp [hg]), (((But.refl _ w).alloc _).alloc _).alloc _⟩
  rw [← hg, show g + 1 + 1 = g + 2 from rfl]
  generalize (((w.alloc (.cells C 57)).alloc (.cells Z 57)).alloc (.cells Z 57)) = W0 at *
  have HI := Hid.mk' hI
  have HG := Hid.mk' hg
  clear hI hg hz HZ HC
  go_loopw [6] (fun i wr => ∃ c : Nat, c ≤ 4 ∧ i = .int .i64 c ∧ TurnI w g s (fill q v (4 * c)) wr) (fun i _ => 4 - (intOf i).toNat)
  case atStart => exact ⟨0, by decide, rfl, HI.out⟩
  case round =>
    obtain ⟨c, hc, rfl, hI⟩ := hrel
    by_cases hlt : c < 4
    · have HI2 := Hid.mk' hI
      clear hI HI
      have hci : (c : Int) < 4 := by omega
      obtain ⟨wo, hwo⟩ : ∃ wo, wo = wr := ⟨_, rfl⟩
      subst hwo
      go_wp2
      go_loopw [9] (fun i wr => ∃ r : Nat, r ≤ 4 ∧ i = .int .i64 r ∧ TurnI w g s (fill q v (4 * c + r)) wr) (fun i _ => 4 - (intOf i).toNat)
      case atStart => exact ⟨0, by decide, rfl, HI2.out⟩
      case round =>
        obtain ⟨r, hr, rfl, hI⟩ := hrel
        by_cases hlt2 : r < 4
        · have HI := Hid.mk' hI
          clear hI HI2
          have hri : (r : Int) < 4 := by omega
          obtain ⟨m, hm⟩ : ∃ m, m = 4 * c + r := ⟨_, rfl⟩
          obtain ⟨e, he⟩ : ∃ e, e = c + r := ⟨_, rfl⟩
          obtain ⟨d, hd⟩ : ∃ d, d = e % 4 := ⟨_, rfl⟩
          have w1 : IntKind.i64.wrap ((c : Int) + (r : Int)) = (e : Int) := by rw [wrapI _ (by omega) (by omega)]; omega
          have w2 : Int.tmod (e : Int) 4 = (d : Int) := by rw [Int.tmod_eq_emod_of_nonneg (by omega)]; omega
          have b1 : (d : Int) < 4 := by omega
          have hm16 : m < 16 := by omega
          have HF : Hid (fwdI m = d * 4 + r) := by show _ = _; unfold fwdI; omega
          have HME : Hid (4 * c + r = m) := hm.symm
          rw [HME.out] at HI
          have c1 := blk_nts HI.out.src (d * 4 + r) (by rw [hs]; omega)
          have hfr := HI.out.dst.free (c * 4 + r)
          have c2 := blk_nts HI.out.dst (c * 4 + r) (by rw [fill_len]; omega)
          generalize at8 (fill q v m) (c * 4 + r) = Y at c2
          obtain ⟨X, hX⟩ : ∃ X, X = at8 s (d * 4 + r) := ⟨_, rfl⟩
          rw [← hX] at c1
          have HX := Hid.mk' hX
          clear hX hm he hd
          go_wp2_with fail
          refine region_ends (l := [_, _, _, _, _, _, _, _, _, _, _, _]) (o := _) (by kernel_rfl) (by kernel_rfl) (by kernel_rfl) rfl (by kernel_rfl) (by kernel_rfl) ?_
          repeat (quiet_step (fail))
          refine wpQuiet_nil ?_
          intro _ hw'
          obtain ⟨nq, hw''⟩ := hw'
          subst hw''
          go_wp2
          refine ⟨⟨r + 1, by omega, by go_num, ?_⟩, by simp [intOf]; omega⟩
          rw [← Nat.add_assoc, HME.out]
          have h := HI.out
          have hn : But (fun _ => False) wr (wr.drewN nq) := (But.refl _ wr).drewN
          have hsn : But (· = g + 2) wr ((wr.drewN nq).setCell ⟨g + 2, c * 4 + r, none⟩ (.int .u8 (b8 X : Nat))) := ((But.refl (· = g + 2) wr).drewN (n := nq)).setCell (p := ⟨g + 2, c * 4 + r, none⟩) (fun _ => rfl) _
          refine ⟨h.src.but hsn (show ¬ (g = g + 2) by omega), h.res.but hsn (show ¬ (g + 1 = g + 2) by omega), ?_, h.but.then hsn (fun i hi e => by have := HG.out; omega)⟩
          have hX : X = v (c * 4 + r) := by
            rw [HX.out, HV.out]
            show at8 s _ = at8 s _
            congr 1
            rw [show c * 4 + r = m by have := HME.out; omega]; exact HF.out.symm
          rw [← fill_set v m (c * 4 + r) (by omega) (by rw [HQ.out]; have := HME.out; show c * 4 + r = m; omega) (fun j _ hj => by rw [HQ.out] at hj; have := HME.out; have hj2 : j = m := hj; omega), ← hX]
          exact blk_nts_set (h.dst.but hn (fun h => h)) _ _
        · have hr4 : r = 4 := by omega
          subst hr4
          have HI4 := Hid.mk' hI
          clear hI HI2
          go_wp2
          refine ⟨⟨c + 1, by omega, by go_num, ?_⟩, by simp [intOf]; omega⟩
          rw [Nat.mul_add]
          exact HI4.out
    · have hc4 : c = 4 := by omega
      subst hc4
      rw [show 4 * 4 = 16 from rfl, fill_all (by rw [HQ.out]; exact fun j h => h)] at hI
      have HI2 := Hid.mk' hI
      clear hI HI
      obtain ⟨M, hM⟩ : ∃ M, M = mk16 v := ⟨_, rfl⟩
      have HML : Hid ((nts M).length = 16) := by show _ = _; rw [hM, nts_len, mk16_len]
      rw [← hM] at HI2
      have HM := Hid.mk' hM
      clear hM
      go_wp2_with (first
        | (refine wpList_load_u8s Try.underlying57 i57 rfl _ rfl (g + 2) (nts M) HML.out rfl HI2.out.dst ?_)
        | (refine wpList_store_u8s i57 rfl _ _ rfl (g + 1) (nts M) HML.out rfl (by exact rfl) _ (by simp [u8s]) HI2.out.res ?_; intro w2 hb2 hbut2))
      refine bodyPost_ret (results_cell_row rfl _ _ (g + 1) _ _ _ _ rfl hb2 Try.underlying57 rfl (by rw [i57]; simp [u8s, HML.out])) rfl ⟨by rw [HM.out, HV.out]; rfl, ?_⟩
      exact HI2.out.but.then hbut2 (fun i hi e => by have := HG.out; omega)
set_option maxRecDepth 100000 in
set_option maxHeartbeats 1000000 in
theorem turnedBack_any {w : World} {s : List B8} (hs : s.length = 16) :
    Calls Try.prog 34 #[.agg (u8s (nts s)).toArray] w fun e w' => e = .returned (.agg (u8s (nts (untS s))).toArray) ∧ But (fun _ => False) w w' := by
  have hz := zeroS
  obtain ⟨Z, hZ⟩ : ∃ Z, Z = (u8s (List.replicate 16 0)).toArray := ⟨_, rfl⟩
  rw [← hZ] at hz
  obtain ⟨C, hC⟩ : ∃ C, C = (u8s (nts s)).toArray := ⟨_, rfl⟩
  rw [← hC]
  have HZ := Hid.mk' hZ
  have HC := Hid.mk' hC
  clear hZ hC
  obtain ⟨q, hq⟩ : ∃ q : Nat → Nat, q = backI := ⟨_, rfl⟩
  obtain ⟨v, hv⟩ : ∃ v : Nat → B8, v = fun j => at8 s (backI j) := ⟨_, rfl⟩
  have HQ := Hid.mk' hq
  have HV := Hid.mk' hv
  clear hq hv
  go_enter Try.func34, Try.ntmps34
  go_wp2
  obtain ⟨g, hg⟩ : ∃ g, g = w.heap.size := ⟨_, rfl⟩
  have hI : TurnI w g s (fill q v (4 * 0)) (((w.alloc (.cells C 57)).alloc (.cells Z 57)).alloc (.cells Z 57)) := by
    rw [HC.out, HZ.out, fill_zero]
    have al : ∀ (x : World) (o : Obj), But (fun _ => False) x (x.alloc o) := fun x o => (But.refl _ x).alloc o
    exact ⟨((Blk.new hg.symm).but (al _ _) (fun h => h)).but (al _ _) (fun h => h), (Blk.new (by simp [hg])).but (al _ _) (fun h => h), by rw [nts_rep]; exact Blk.new (by simp [hg]), (((But.refl _ w).alloc _).alloc _).alloc _⟩
  rw [← hg, show g + 1 + 1 = g + 2 from rfl]
  generalize (((w.alloc (.cells C 57)).alloc (.cells Z 57)).alloc (.cells Z 57)) = W0 at *
  have HI := Hid.mk' hI
  have HG := Hid.mk' hg
  clear hI hg hz HZ HC
  go_loopw [6] (fun i wr => ∃ c : Nat, c ≤ 4 ∧ i = .int .i64 c ∧ TurnI w g s (fill q v (4 * c)) wr) (fun i _ => 4 - (intOf i).toNat)
  case atStart => exact ⟨0, by decide, rfl, HI.out⟩
  case round =>
    obtain ⟨c, hc, rfl, hI⟩ := hrel
    by_cases hlt : c < 4
    · have HI2 := Hid.mk' hI
      clear hI HI
      have hci : (c : Int) < 4 := by omega
      obtain ⟨wo, hwo⟩ : ∃ wo, wo = wr := ⟨_, rfl⟩
      subst hwo
      go_wp2
      go_loopw [9] (fun i wr => ∃ r : Nat, r ≤ 4 ∧ i = .int .i64 r ∧ TurnI w g s (fill q v (4 * c + r)) wr) (fun i _ => 4 - (intOf i).toNat)
      case atStart => exact ⟨0, by decide, rfl, HI2.out⟩
      case round =>
        obtain ⟨r, hr, rfl, hI⟩ := hrel
        by_cases hlt2 : r < 4
        · have HI := Hid.mk' hI
          clear hI HI2
          have hri : (r : Int) < 4 := by omega
          obtain ⟨m, hm⟩ : ∃ m, m = 4 * c + r := ⟨_, rfl⟩
          obtain ⟨e, he⟩ : ∃ e, e = c + r := ⟨_, rfl⟩
          obtain ⟨d, hd⟩ : ∃ d, d = e % 4 := ⟨_, rfl⟩
          have w1 : IntKind.i64.wrap ((c : Int) + (r : Int)) = (e : Int) := by rw [wrapI _ (by omega) (by omega)]; omega
          have w2 : Int.tmod (e : Int) 4 = (d : Int) := by rw [Int.tmod_eq_emod_of_nonneg (by omega)]; omega
          have b1 : (d : Int) < 4 := by omega
          have hm16 : m < 16 := by omega
          have HF : Hid (fwdI m = d * 4 + r) := by show _ = _; unfold fwdI; omega
          have HME : Hid (4 * c + r = m) := hm.symm
          rw [HME.out] at HI
          have c1 := blk_nts HI.out.src (c * 4 + r) (by rw [hs]; omega)
          have hfr := HI.out.dst.free (d * 4 + r)
          have c2 := blk_nts HI.out.dst (d * 4 + r) (by rw [fill_len]; omega)
          generalize at8 (fill q v m) (d * 4 + r) = Y at c2
          obtain ⟨X, hX⟩ : ∃ X, X = at8 s (c * 4 + r) := ⟨_, rfl⟩
          rw [← hX] at c1
          have HX := Hid.mk' hX
          clear hX hm he hd
          go_wp2_with fail
          refine region_ends (l := [_, _, _, _, _, _, _, _, _, _, _, _]) (o := _) (by kernel_rfl) (by kernel_rfl) (by kernel_rfl) rfl (by kernel_rfl) (by kernel_rfl) ?_
          repeat (quiet_step (fail))
          refine wpQuiet_nil ?_
          intro _ hw'
          obtain ⟨nq, hw''⟩ := hw'
          subst hw''
          go_wp2
          refine ⟨⟨r + 1, by omega, by go_num, ?_⟩, by simp [intOf]; omega⟩
          rw [← Nat.add_assoc, HME.out]
          have h := HI.out
          have hn : But (fun _ => False) wr (wr.drewN nq) := (But.refl _ wr).drewN
          have hsn : But (· = g + 2) wr ((wr.drewN nq).setCell ⟨g + 2, d * 4 + r, none⟩ (.int .u8 (b8 X : Nat))) := ((But.refl (· = g + 2) wr).drewN (n := nq)).setCell (p := ⟨g + 2, d * 4 + r, none⟩) (fun _ => rfl) _
          refine ⟨h.src.but hsn (show ¬ (g = g + 2) by omega), h.res.but hsn (show ¬ (g + 1 = g + 2) by omega), ?_, h.but.then hsn (fun i hi e => by have := HG.out; omega)⟩
          have hX : X = v (d * 4 + r) := by
            rw [HX.out, HV.out]
            show at8 s _ = at8 s _
            congr 1
            rw [← HF.out, back_fwdI m hm16]; have := HME.out; omega
          rw [← fill_set v m (d * 4 + r) (by omega) (by rw [HQ.out, ← HF.out]; exact back_fwdI m hm16) (fun j hj16 hj => by rw [HQ.out] at hj; rw [← HF.out, ← hj]; exact (fwd_backI j hj16).symm), ← hX]
          exact blk_nts_set (h.dst.but hn (fun h => h)) _ _
        · have hr4 : r = 4 := by omega
          subst hr4
          have HI4 := Hid.mk' hI
          clear hI HI2
          go_wp2
          refine ⟨⟨c + 1, by omega, by go_num, ?_⟩, by simp [intOf]; omega⟩
          rw [Nat.mul_add]
          exact HI4.out
    · have hc4 : c = 4 := by omega
      subst hc4
      rw [show 4 * 4 = 16 from rfl, fill_all (by rw [HQ.out]; exact backI_lt)] at hI
      have HI2 := Hid.mk' hI
      clear hI HI
      obtain ⟨M, hM⟩ : ∃ M, M = mk16 v := ⟨_, rfl⟩
      have HML : Hid ((nts M).length = 16) := by show _ = _; rw [hM, nts_len, mk16_len]
      rw [← hM] at HI2
      have HM := Hid.mk' hM
      clear hM
      go_wp2_with (first
        | (refine wpList_load_u8s Try.underlying57 i57 rfl _ rfl (g + 2) (nts M) HML.out rfl HI2.out.dst ?_)
        | (refine wpList_store_u8s i57 rfl _ _ rfl (g + 1) (nts M) HML.out rfl (by exact rfl) _ (by simp [u8s]) HI2.out.res ?_; intro w2 hb2 hbut2))
      refine bodyPost_ret (results_cell_row rfl _ _ (g + 1) _ _ _ _ rfl hb2 Try.underlying57 rfl (by rw [i57]; simp [u8s, HML.out])) rfl ⟨by rw [HM.out, HV.out]; rfl, ?_⟩
      exact HI2.out.but.then hbut2 (fun i hi e => by have := HG.out; omega)
end Go.Proofs.Ytdlalpklopnpjaa
