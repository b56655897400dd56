/- The reference's Times of layer 7. -/
import Derived.Test.YtpdkdeebdhdhgaaGhashRed
import Derived.Test.YtpdkdeebdhdhgaaStages
import Derived.Deep.Cut
namespace Go.Proofs.Ytpdkdeebdhdhgaa
open Go.RowKit

theorem i16g : (Try.prog.info? 22).map (·.size) = some 16 := by kernel_rfl
theorem bo_xor (c d : Bool) : bits .xor .u8 (bo c : Int) (bo d : Int) = (bo (c ^^ d) : Int) := by cases c <;> cases d <;> decide
theorem bo_not (c : Bool) : bits .xor .u8 (bo c : Int) 1 = (bo (!c) : Int) := by cases c <;> decide
theorem bl_cell {w : World} {g : Nat} {T : TypeId} {f : Nat → Bool} (h : Blk w g T (u8s (bl f))) (t : Nat) (ht : t < 256) : w.cell? ⟨g, t, none⟩ = some (.int .u8 (bo (f t) : Nat)) := by
  rw [h.cell]
  unfold u8s
  rw [List.getElem?_map, bl_at f t ht]; rfl
theorem bl_put {w : World} {g : Nat} {T : TypeId} {f : Nat → Bool} (h : Blk w g T (u8s (bl f))) (t : Nat) (c : Bool) : Blk (w.setCell ⟨g, t, none⟩ (.int .u8 (bo c : Nat))) g T (u8s (bl (updB f t c))) := by
  rw [← bl_set, ← u8s_set]; exact h.set t _
/-- What memory is amid Times. -/
structure GtI (w : World) (g : Nat) (a b : List B8) (f : Nat → Bool) (wr : World) : Prop where
  sa : Blk wr g 22 (u8s (nts a))
  sb : Blk wr (g + 1) 22 (u8s (nts b))
  res : Blk wr (g + 2) 22 (u8s (List.replicate 16 0))
  p : Blk wr (g + 3) 46 (u8s (bl f))
  but : But (fun _ => False) w wr
  top : ∀ t, 256 ≤ t → f t = false
theorem GtI.then {w wr w' : World} {g : Nat} {a b : List B8} {f : Nat → Bool} (h : GtI w g a b f wr) (k : But (fun _ => False) wr w') : GtI w g a b f w' :=
  ⟨h.sa.but k (fun h => h), h.sb.but k (fun h => h), h.res.but k (fun h => h), h.p.but k (fun h => h), h.but.trans k, h.top⟩
theorem GtI.put {w wr : World} {g : Nat} {a b : List B8} {f : Nat → Bool} (h : GtI w g a b f wr) (hg : g = w.heap.size) (s : Nat) (hs : s < 256) (c : Bool) : GtI w g a b (updB f s c) (wr.setCell ⟨g + 3, s, none⟩ (.int .u8 (bo c : Nat))) := by
  have k : But (· = g + 3) wr (wr.setCell ⟨g + 3, s, none⟩ (.int .u8 (bo c : Nat))) := (But.refl (· = g + 3) wr).setCell (p := ⟨g + 3, s, none⟩) (fun _ => rfl) _
  refine ⟨h.sa.but k (show ¬ (g = g + 3) by omega), h.sb.but k (show ¬ (g + 1 = g + 3) by omega), h.res.but k (show ¬ (g + 2 = g + 3) by omega), bl_put h.p s c, h.but.then k (fun i hi e => by omega), fun t ht => ?_⟩
  unfold updB
  rw [if_neg (by omega)]
  exact h.top t ht
theorem GtI.other {w wr w' : World} {g go : Nat} {a b : List B8} {f : Nat → Bool} (h : GtI w g a b f wr) (hg : g = w.heap.size) (hgo : g + 3 < go) (k : But (· = go) wr w') : GtI w g a b f w' :=
  ⟨h.sa.but k (show ¬ (g = go) by omega), h.sb.but k (show ¬ (g + 1 = go) by omega), h.res.but k (show ¬ (g + 2 = go) by omega), h.p.but k (show ¬ (g + 3 = go) by omega), h.but.then k (fun i hi e => by omega), h.top⟩
theorem loadRow16 {w : World} {g : Nat} {l : List B8} (hl : l.length = 16) (hb : Blk w g 22 (u8s (nts l))) : (Instr.loadAt 22 (.pointer (some ⟨g, 0, none⟩))).run Try.prog w = .ok (.agg (u8s (nts l)).toArray) w := by
  have h := run_loadVar_row (P := Try.prog) w g 22 22 _ (0, 0) _ hb Try.underlying22 rfl (by rw [i16g]; simp [u8s, nts_len, hl])
  simp only [Instr.loadAt, Instr.sureAddr, Sem.run_bind, Sem.run_pure, Result.andThen_ok, h]
structure GtC (w : World) (g : Nat) (a b : List B8) (f : Nat → Bool) (s : Nat) (c : Bool) (d : Nat → Bool) (fv : Nat → Value) (wx : World) : Prop where
  before : d 13 = false → GtI w g a b f wx
  after : d 13 = true → GtI w g a b (updB f s c) wx
theorem callBit (args : Array Value) (w : World) : (callFunc 24 args).run Try.prog w = .ok (.enter 24 args) w := by kernel_rfl
set_option maxRecDepth 100000 in
set_option maxHeartbeats 1000000 in
theorem rgtimes_any {w : World} {a b : List B8} (ha : a.length = 16) (hb : b.length = 16) :
    Calls Try.prog 10 #[.agg (u8s (nts a)).toArray, .agg (u8s (nts b)).toArray] w fun e w' => e = .returned (.agg (u8s (nts (gtimes a b))).toArray) ∧ But (fun _ => False) w w' := by
  have hz : ∀ w : World, (zeroValue 22).run Try.prog w = .ok (.agg (u8s (List.replicate 16 0)).toArray) w := fun _ => by kernel_rfl
  have hz2 : ∀ w : World, (zeroValue 46).run Try.prog w = .ok (.agg (u8s (List.replicate 256 0)).toArray) w := fun _ => by kernel_rfl
  obtain ⟨Z, hZ⟩ : ∃ Z, Z = (u8s (List.replicate 16 0)).toArray := ⟨_, rfl⟩
  obtain ⟨Y, hY⟩ : ∃ Y, Y = (u8s (List.replicate 256 0)).toArray := ⟨_, rfl⟩
  rw [← hZ] at hz
  rw [← hY] at hz2
  obtain ⟨C, hC⟩ : ∃ C, C = (u8s (nts a)).toArray := ⟨_, rfl⟩
  obtain ⟨F, hF⟩ : ∃ F, F = (u8s (nts b)).toArray := ⟨_, rfl⟩
  rw [← hC, ← hF]
  have HZ := Hid.mk' hZ
  have HY := Hid.mk' hY
  have HC := Hid.mk' hC
  have HF := Hid.mk' hF
  clear hZ hC hF hY
  go_enter Try.func10, Try.ntmps10
  go_wp2
  obtain ⟨g, hg⟩ : ∃ g, g = w.heap.size := ⟨_, rfl⟩
  have hI : GtI w g a b (fun _ => false) ((((w.alloc (.cells C 22)).alloc (.cells F 22)).alloc (.cells Z 22)).alloc (.cells Y 46)) := by
    rw [HC.out, HF.out, HZ.out, HY.out]
    have al : ∀ (x : World) (o : Obj), But (fun _ => False) x (x.alloc o) := fun x o => (But.refl _ x).alloc o
    refine ⟨?_, ?_, ?_, ?_, (((((But.refl _ w).alloc _).alloc _).alloc _).alloc _), fun _ _ => rfl⟩
    · exact (((Blk.new hg.symm).but (al _ _) (fun h => h)).but (al _ _) (fun h => h)).but (al _ _) (fun h => h)
    · exact ((Blk.new (by simp [hg])).but (al _ _) (fun h => h)).but (al _ _) (fun h => h)
    · exact (Blk.new (by simp [hg])).but (al _ _) (fun h => h)
    · rw [bl_zero]; exact Blk.new (by simp [hg])
  rw [← hg, show g + 1 + 1 + 1 = g + 3 from rfl, show g + 1 + 1 = g + 2 from rfl]
  generalize ((((w.alloc (.cells C 22)).alloc (.cells F 22)).alloc (.cells Z 22)).alloc (.cells Y 46)) = W0 at *
  have HI := Hid.mk' hI
  have HG := Hid.mk' hg
  have HAL := Hid.mk' ha
  have HBL := Hid.mk' hb
  have HNA : Hid ((nts a).length = 16) := by show _ = _; rw [nts_len]; exact ha
  clear hI hg HC HF HY hz2 ha
  go_loopw [6] (fun x wr => ∃ (i : Nat) (f : Nat → Bool), i ≤ 128 ∧ x = .int .i64 i ∧ redF f 256 = colSum a b i ∧ GtI w g a b f wr) (fun x _ => 128 - (intOf x).toNat)
  case atStart => exact ⟨0, fun _ => false, by decide, rfl, redF_zero 256, HI.out⟩
  case round =>
    obtain ⟨i, f, hi, rfl, hred, hI⟩ := hrel
    have HR := Hid.mk' hred
    clear HI hred
    have HI := Hid.mk' hI
    clear hI
    by_cases hlt : i < 128
    · have hii : (i : Int) < 128 := by omega
      obtain ⟨wo, hwo⟩ : ∃ wo, wo = wr := ⟨_, rfl⟩
      subst hwo
      go_wp2_with (first
        | (refine wpList_load_u8s Try.underlying22 i16g rfl _ rfl g (nts a) HNA.out rfl HI.out.sa ?_)
        | fail)
      refine Calls.mono (rbit_any a HAL.out i hlt wo) ?_
      rintro e w1 ⟨rfl, hbut1⟩
      have HI1 := Hid.mk' (HI.out.then hbut1)
      clear hbut1 HI
      cases hc : coef a i
      · have hv : (bo false : Int) = 0 := rfl
        have HCE := Hid.mk' hc
        clear hc
        go_wp2
        refine ⟨⟨i + 1, f, by omega, by go_num, ?_, HI1.out⟩, by simp [intOf]; omega⟩
        show redF f 256 = colSum a b i ^^^ cx (coef a i) (mxs i (toG b))
        rw [HR.out, HCE.out]
        exact BitVec.xor_zero.symm
      · have hv : ((bo true : Int) == 0) = false := by decide
        have HCE := Hid.mk' hc
        clear hc
        go_wp2
        go_loopw [7] (fun x wr => ∃ (k : Nat) (f : Nat → Bool), k ≤ 128 ∧ x = .int .i64 k ∧ redF f 256 = colSum a b i ^^^ rowSum b i k ∧ GtI w g a b f wr) (fun x _ => 128 - (intOf x).toNat)
        case atStart => exact ⟨0, f, by decide, rfl, by rw [HR.out]; exact BitVec.xor_zero.symm, HI1.out⟩
        case round =>
          obtain ⟨k, f, hk, rfl, hred, hI⟩ := hrel
          have HR2 := Hid.mk' hred
          have HI2 := Hid.mk' hI
          clear hred hI HI1
          by_cases hlk : k < 128
          · have hki : (k : Int) < 128 := by omega
            obtain ⟨s, hs⟩ : ∃ s, s = i + k := ⟨_, rfl⟩
            have w1' : IntKind.i64.wrap ((i : Int) + (k : Int)) = (s : Int) := by simp [IntKind.wrap, IntKind.bits, IntKind.signed]; omega
            have hs256 : s < 256 := by omega
            have hs256' : (s : Int) < 256 := by omega
            have hxo := bo_xor (f s) (coef b k)
            have HS := Hid.mk' hs
            clear hs
            go_wp2
            refine region_frame [some 23, some 24, some 25, some 26, some 27, some 28, some 29, some 30, some 31, some 32, some 33, some 34, some 35, none] (by kernel_rfl) [some (.int .i64 (i : Int)), some (.int .i64 (k : Int)), some (.int .i64 (s : Int)), some (.int .i64 (i : Int)), some (.int .i64 (k : Int)), some (.int .i64 (s : Int)), some (.pointer (some ⟨g + 3, s, none⟩)), some (.int .u8 (bo (f s) : Int)), some (.agg (u8s (nts b)).toArray), some (.int .i64 (k : Int)), some (.int .u8 (bo (coef b k) : Int)), some (.int .u8 (bo (f s ^^ coef b k) : Int)), some (.pointer (some ⟨g + 3, s, none⟩)), none] (GtC w g a b f s (f s ^^ coef b k)) (by kernel_rfl) (by kernel_rfl) (by kernel_rfl) (by kernel_rfl) (by kernel_rfl) (by kernel_rfl) ?_ ?_ ?_ ?_ ?_
            · intro fv
              exact ⟨fun _ => HI2.out.then ((But.refl _ wr).drew), nofun⟩
            · intro j u d fv wx hu hC
              have e : upd d j true 13 = d 13 := upd_other d true (by rintro rfl; cases hu)
              exact ⟨by rw [e]; exact hC.before, by rw [e]; exact hC.after⟩
            · intro ρ r0 r1 r2 j o u d fv wx ho hu hdi hsh hC
              have E23 := r1 0 23 _ (by kernel_rfl) rfl
              have E24 := r1 1 24 _ (by kernel_rfl) rfl
              have E25 := r1 2 25 _ (by kernel_rfl) rfl
              have E26 := r1 3 26 _ (by kernel_rfl) rfl
              have E27 := r1 4 27 _ (by kernel_rfl) rfl
              have E28 := r1 5 28 _ (by kernel_rfl) rfl
              have E29 := r1 6 29 _ (by kernel_rfl) rfl
              have E30 := r1 7 30 _ (by kernel_rfl) rfl
              have E31 := r1 8 31 _ (by kernel_rfl) rfl
              have E32 := r1 9 32 _ (by kernel_rfl) rfl
              have E33 := r1 10 33 _ (by kernel_rfl) rfl
              have E34 := r1 11 34 _ (by kernel_rfl) rfl
              have E35 := r1 12 35 _ (by kernel_rfl) rfl
              have O3 : ρ (.tmp 3) = .pointer (some ⟨g + 1, 0, none⟩) := r2 3 (by kernel_rfl)
              have O5 : ρ (.tmp 5) = .pointer (some ⟨g + 3, 0, none⟩) := r2 5 (by kernel_rfl)
              have O6 : ρ (.tmp 6) = .int .i64 (i : Int) := r2 6 (by kernel_rfl)
              have O7 : ρ (.tmp 7) = .int .i64 (k : Int) := r2 7 (by kernel_rfl)
              have pre : d j = false → GtI w g a b f wx := by
                intro hj
                refine hC.before ?_
                cases h : d 13 with
                | false => rfl
                | true =>
                  exfalso
                  have hall : ∀ q, q < 13 → d q = true := by
                    intro q hq
                    have h12 := hsh 13 _ 12 rfl (by kernel_rfl) h
                    match q, hq with
                    | 12, _ => exact h12
                    | 0, _ => exact hsh 13 _ 0 rfl (by kernel_rfl) h
                    | 1, _ => exact hsh 13 _ 1 rfl (by kernel_rfl) h
                    | 2, _ => exact hsh 13 _ 2 rfl (by kernel_rfl) h
                    | 3, _ => exact hsh 13 _ 3 rfl (by kernel_rfl) h
                    | 4, _ => exact hsh 13 _ 4 rfl (by kernel_rfl) h
                    | 5, _ => exact hsh 13 _ 5 rfl (by kernel_rfl) h
                    | 6, _ => exact hsh 13 _ 6 rfl (by kernel_rfl) h
                    | 7, _ => exact hsh 13 _ 7 rfl (by kernel_rfl) h
                    | 8, _ => exact hsh 13 _ 8 rfl (by kernel_rfl) h
                    | 9, _ => exact hsh 13 _ 9 rfl (by kernel_rfl) h
                    | 10, _ => exact hsh 13 _ 10 rfl (by kernel_rfl) h
                    | 11, _ => exact hsh 13 _ 11 rfl (by kernel_rfl) h
                  by_cases hj13 : j < 13
                  · rw [hall j hj13] at hj; cases hj
                  · by_cases hj2 : j = 13
                    · subst hj2; cases hu
                    · have : (14 : Nat) ≤ j := by omega
                      obtain ⟨m, rfl⟩ : ∃ m, j = m + 14 := ⟨j - 14, by omega⟩
                      cases hu
              have hGI := pre hdi
              have cs := bl_cell hGI.p s hs256
              clear r1 r2 hsh
              match j with
              | 0 =>
                  simp only [List.getElem?_toArray, List.getElem?_cons_zero, Option.some.injEq] at ho
                  subst ho
                  obtain rfl := Option.some.inj hu
                  go_simp
              | 1 =>
                  simp only [List.getElem?_toArray, List.getElem?_cons_succ, List.getElem?_cons_zero, Option.some.injEq] at ho
                  subst ho
                  obtain rfl := Option.some.inj hu
                  go_simp
              | 2 =>
                  simp only [List.getElem?_toArray, List.getElem?_cons_succ, List.getElem?_cons_zero, Option.some.injEq] at ho
                  subst ho
                  obtain rfl := Option.some.inj hu
                  go_simp
              | 3 =>
                  simp only [List.getElem?_toArray, List.getElem?_cons_succ, List.getElem?_cons_zero, Option.some.injEq] at ho
                  subst ho
                  obtain rfl := Option.some.inj hu
                  go_simp
              | 4 =>
                  simp only [List.getElem?_toArray, List.getElem?_cons_succ, List.getElem?_cons_zero, Option.some.injEq] at ho
                  subst ho
                  obtain rfl := Option.some.inj hu
                  go_simp
              | 5 =>
                  simp only [List.getElem?_toArray, List.getElem?_cons_succ, List.getElem?_cons_zero, Option.some.injEq] at ho
                  subst ho
                  obtain rfl := Option.some.inj hu
                  go_simp
              | 6 =>
                  simp only [List.getElem?_toArray, List.getElem?_cons_succ, List.getElem?_cons_zero, Option.some.injEq] at ho
                  subst ho
                  obtain rfl := Option.some.inj hu
                  go_simp
              | 7 =>
                  simp only [List.getElem?_toArray, List.getElem?_cons_succ, List.getElem?_cons_zero, Option.some.injEq] at ho
                  subst ho
                  obtain rfl := Option.some.inj hu
                  go_simp
              | 8 =>
                  simp only [List.getElem?_toArray, List.getElem?_cons_succ, List.getElem?_cons_zero, Option.some.injEq] at ho
                  subst ho
                  obtain rfl := Option.some.inj hu
                  unfold execOp
                  simp only [O3, Sem.run_bind, loadRow16 hb hGI.sb, Result.andThen_ok, Sem.run_pure]
                  exact ⟨rfl, rfl⟩
              | 9 =>
                  simp only [List.getElem?_toArray, List.getElem?_cons_succ, List.getElem?_cons_zero, Option.some.injEq] at ho
                  subst ho
                  obtain rfl := Option.some.inj hu
                  go_simp
              | 10 =>
                  simp only [List.getElem?_toArray, List.getElem?_cons_succ, List.getElem?_cons_zero, Option.some.injEq] at ho
                  subst ho
                  obtain rfl := Option.some.inj hu
                  refine quiet_call 24 [_, _] _ #[.agg (u8s (nts b)).toArray, .int .i64 (k : Int)] rfl (r0.2 _) (by simp [E31, E32]) (callBit _ _) ?_
                  refine Calls.mono (rbit_any b hb k hlk wx) ?_
                  rintro e w2 ⟨rfl, hbut2⟩
                  exact ⟨rfl, fun h => (hC.before h).then hbut2, fun h => (hC.after h).then hbut2⟩
              | 11 =>
                  simp only [List.getElem?_toArray, List.getElem?_cons_succ, List.getElem?_cons_zero, Option.some.injEq] at ho
                  subst ho
                  obtain rfl := Option.some.inj hu
                  go_simp
              | 12 =>
                  simp only [List.getElem?_toArray, List.getElem?_cons_succ, List.getElem?_cons_zero, Option.some.injEq] at ho
                  subst ho
                  obtain rfl := Option.some.inj hu
                  go_simp
              | 13 => cases hu
              | j + 14 => cases hu
            · intro j o d fv x wx ho hu hdi hsh hw hC hsee
              match j with
              | 13 =>
                simp only [List.getElem?_toArray, List.getElem?_cons_succ, List.getElem?_cons_zero, Option.some.injEq] at ho
                subst ho
                have e35 := hsee.tab 12 35 _ (by kernel_rfl) (by kernel_rfl) rfl
                have e34 := hsee.tab 11 34 _ (by kernel_rfl) (by kernel_rfl) rfl
                have hGI := hC.before hdi
                have fr := hGI.p.free s
                have cs := bl_cell hGI.p s hs256
                refine op_skip (w' := wx.setCell ⟨g + 3, s, none⟩ (.int .u8 (bo (f s ^^ coef b k) : Nat))) ?_ ?_
                · unfold execOp
                  simp only [e35, e34]
                  go_simp
                · exact ⟨undef, rfl, nofun, fun _ => hGI.put HG.out s hs256 _⟩
              | 0 => cases hu
              | 1 => cases hu
              | 2 => cases hu
              | 3 => cases hu
              | 4 => cases hu
              | 5 => cases hu
              | 6 => cases hu
              | 7 => cases hu
              | 8 => cases hu
              | 9 => cases hu
              | 10 => cases hu
              | 11 => cases hu
              | 12 => cases hu
              | j + 14 => cases ho
            · intro fv wx hC hval
              have HA := Hid.mk' (hC.after rfl)
              clear hC hval
              simp only [putL]
              go_wp2
              refine ⟨⟨k + 1, updB f s (f s ^^ coef b k), by omega, by go_num, ?_, HA.out⟩, by simp [intOf]; omega⟩
              rw [redF_flip f s (coef b k) 256 hs256, HR2.out, HS.out, BitVec.xor_assoc]
              rfl
          · have hk8 : k = 128 := by omega
            subst hk8
            go_wp2
            refine ⟨⟨i + 1, f, by omega, by go_num, ?_, HI2.out⟩, by simp [intOf]; omega⟩
            show redF f 256 = colSum a b i ^^^ cx (coef a i) (mxs i (toG b))
            rw [HR2.out, HCE.out, rowSum_all]; rfl
    · have hi8 : i = 128 := by omega
      subst hi8
      rw [colSum_all] at HR
      obtain ⟨wo, hwo⟩ : ∃ wo, wo = wr := ⟨_, rfl⟩
      subst hwo
      go_wp2
      go_loopw [8] (fun x wr => ∃ (s : Nat) (f : Nat → Bool), s ≤ 128 ∧ x = .int .i64 (127 + s : Nat) ∧ redF f 256 = gm (toG b) (toG a) ∧ (∀ t, 127 + s < t → f t = false) ∧ GtI w g a b f wr) (fun x _ => (intOf x).toNat)
      case atStart => exact ⟨128, f, by decide, rfl, HR.out, fun t ht => HI.out.top t (by omega), HI.out⟩
      case round =>
        obtain ⟨s, f, hs, rfl, hred, htop, hI⟩ := hrel
        have HR2 := Hid.mk' hred
        have HT2 := Hid.mk' htop
        have HI2 := Hid.mk' hI
        clear hred htop hI HI HR
        by_cases h0 : s = 0
        · subst h0
          have HPR : Hid (polyOf f 128 = gm (toG b) (toG a)) := by
            show _ = _
            rw [← redF_low f 128 (Nat.le_refl _), ← redF_top f (fun t ht => HT2.out t (by omega)) 256 (by decide)]
            exact HR2.out
          have h127 : ¬ ((128 : Int) ≤ ((127 + 0 : Nat) : Int)) := by decide
          clear HT2 HR2
          obtain ⟨wo2, hwo2⟩ : ∃ wo2, wo2 = wr := ⟨_, rfl⟩
          subst hwo2
          go_wp2
          obtain ⟨go, hgo⟩ : ∃ go, go = wo2.heap.size := ⟨_, rfl⟩
          rw [← hgo]
          have HGO : Hid (g + 3 < go) := by show _ < _; rw [hgo]; exact HI2.out.p.lt
          have HA : Hid (GtI w g a b f (wo2.alloc (.cells Z 22))) := HI2.out.then ((But.refl _ _).alloc _)
          have HO : Hid (Blk (wo2.alloc (.cells Z 22)) go 22 (u8s (nts (outB f 0)))) := by
            rw [outB_zero, HZ.out]; exact Blk.new hgo.symm
          generalize wo2.alloc (.cells Z 22) = W3 at *
          clear hgo HI2 hz HZ
          go_loopw [10] (fun x wr => ∃ k : Nat, k ≤ 128 ∧ x = .int .i64 k ∧ GtI w g a b f wr ∧ Blk wr go 22 (u8s (nts (outB f k)))) (fun x _ => 128 - (intOf x).toNat)
          case atStart => exact ⟨0, by decide, rfl, HA.out, HO.out⟩
          case round =>
            obtain ⟨k, hk, rfl, hI, hO⟩ := hrel
            have HI3 := Hid.mk' hI
            have HO3 := Hid.mk' hO
            clear hI hO HA HO
            by_cases hlk : k < 128
            · have hki : (k : Int) < 128 := by omega
              have hki2 : (k : Int) < 256 := by omega
              obtain ⟨q, hq⟩ : ∃ q, q = k / 8 := ⟨_, rfl⟩
              obtain ⟨r, hr⟩ : ∃ r, r = k % 8 := ⟨_, rfl⟩
              obtain ⟨sh, hsh⟩ : ∃ sh, sh = 7 - r := ⟨_, rfl⟩
              have d1 : Int.tdiv (k : Int) 8 = (q : Int) := by rw [Int.tdiv_eq_ediv_of_nonneg (by omega)]; omega
              have d2 : IntKind.i64.wrap (q : Int) = (q : Int) := by simp [IntKind.wrap, IntKind.bits, IntKind.signed]; omega
              have d3 : Int.tmod (k : Int) 8 = (r : Int) := by rw [Int.tmod_eq_emod_of_nonneg (by omega)]; omega
              have d4 : IntKind.u64.wrap (r : Int) = (r : Int) := by simp [IntKind.wrap, IntKind.bits, IntKind.signed]; omega
              have d5 : IntKind.u64.wrap (7 - (r : Int)) = (sh : Int) := by simp [IntKind.wrap, IntKind.bits, IntKind.signed]; omega
              have hq16 : q < 16 := by omega
              have hq16' : (q : Int) < 16 := by omega
              have hs8 : sh < 8 := by omega
              have cp := bl_cell HI3.out.p k (by omega)
              have co : wr.cell? ⟨go, q, none⟩ = some (.int .u8 (b8 (at8 (outB f k) q) : Nat)) := by
                rw [HO3.out.cell]
                have e := nts_at (outB f k) q (by rw [outB_len]; exact hq16)
                unfold u8s
                rw [List.getElem?_map, e]; rfl
              have fo := HO3.out.free q
              have hor := or_bit8 (at8 (outB f k) q) sh hs8 (f k)
              have HXE : Hid ((outB f k).set q (at8 (outB f k) q ||| cx (f k) (BitVec.twoPow 8 sh)) = outB f (k + 1)) := by
                show _ = _
                rw [hq, hsh, hr]; exact outB_set f k hlk
              have hbk := bo_lt (f k)
              have hp2 : 2 ^ sh ≤ 128 := Nat.pow_le_pow_right (n := 2) (by decide) (show sh ≤ 7 by omega)
              have hwr : IntKind.u8.wrap ((bo (f k) : Int) * 2 ^ sh) = (bo (f k) : Int) * 2 ^ sh := by
                have e1 : ((bo (f k) : Int) * 2 ^ sh) = ((bo (f k) * 2 ^ sh : Nat) : Int) := by simp
                have e2 : bo (f k) * 2 ^ sh ≤ 1 * 128 := Nat.mul_le_mul (by omega) hp2
                rw [e1, IntKind.wrap_u8']; omega
              clear hq hr hsh hp2
              go_wp2
              refine region_ends (l := [_, _, _, _, _, _, _, _, _, _, _, _, _, _, _, _]) (o := _) (by kernel_rfl) (by kernel_rfl) (by kernel_rfl) rfl (by kernel_rfl) (by kernel_rfl) ?_
              repeat (quiet_step (fail))
              refine wpQuiet_nil ?_
              intro _ hw'
              obtain ⟨nq, hw''⟩ := hw'
              subst hw''
              go_wp2
              have hs2 : But (· = go) wr ((wr.drewN nq).setCell ⟨go, q, none⟩ (.int .u8 (b8 (at8 (outB f k) q ||| cx (f k) (BitVec.twoPow 8 sh)) : Nat))) := ((But.refl (· = go) wr).drewN (n := nq)).setCell (p := ⟨go, q, none⟩) (fun _ => rfl) _
              refine ⟨⟨k + 1, by omega, by go_num, HI3.out.other HG.out HGO.out hs2, ?_⟩, by simp [intOf]; omega⟩
              rw [← HXE.out]
              exact blk_nts_set HO3.out q _
            · have hk8 : k = 128 := by omega
              subst hk8
              obtain ⟨M, hM⟩ : ∃ M, M = outB f 128 := ⟨_, rfl⟩
              rw [← hM] at HO3
              have HML : Hid ((nts M).length = 16) := by show _ = _; rw [hM, nts_len, outB_len]
              have HME : Hid (M = gtimes a b) := by
                refine toG_inj (by rw [hM]; exact outB_len _ _) (gtimes_len _ _) ?_
                rw [hM, outB_all, toG_gtimes, HPR.out, gm_comm]
              clear hM
              go_wp2_with (first
                | (refine wpList_load_u8s Try.underlying22 i16g rfl _ rfl go (nts M) HML.out rfl HO3.out ?_)
                | (refine wpList_store_u8s i16g rfl _ _ rfl (g + 2) (nts M) HML.out rfl (by exact rfl) _ (by simp [u8s]) HI3.out.res ?_; intro w2 hb2 hbut2))
              refine bodyPost_ret (results_cell_row rfl _ _ (g + 2) _ _ _ _ rfl hb2 Try.underlying22 rfl (by rw [i16g]; simp [u8s, HML.out])) rfl ⟨by rw [HME.out], ?_⟩
              exact HI3.out.but.then hbut2 (fun i hi e => by have := HG.out; omega)
        · obtain ⟨r, rfl⟩ : ∃ r, s = r + 1 := ⟨s - 1, by omega⟩
          obtain ⟨m, hm⟩ : ∃ m, m = r + 128 := ⟨_, rfl⟩
          rw [show 127 + (r + 1) = m by omega]
          have hr : r < 128 := by omega
          have hge : (128 : Int) ≤ (m : Int) := by omega
          have hm256 : (m : Int) < 256 := by omega
          have cm := bl_cell HI2.out.p m (by omega)
          have HM := Hid.mk' hm
          clear hm
          cases hfm : f m
          · rw [hfm] at cm
            have hv : ((bo false : Int) == 1) = false := by decide
            have HFM := Hid.mk' hfm
            clear hfm
            go_wp2
            have hmm := HM.out
            refine ⟨⟨r, f, by omega, by rw [hmm]; go_num, HR2.out, fun t ht => ?_, HI2.out⟩, by simp [intOf]; omega⟩
            by_cases e : t = m
            · rw [e]; exact HFM.out
            · exact HT2.out t (by omega)
          · rw [hfm] at cm
            have hv : ((bo true : Int) == 1) = true := by decide
            have fm := HI2.out.p.free m
            have HFM := Hid.mk' hfm
            clear hfm
            go_upto_region 15 with fail
            have HJ1 : Hid (GtI w g a b (updB f m false) (wr.setCell ⟨g + 3, m, none⟩ (.int .u8 0))) := HI2.out.put HG.out m (by omega) false
            generalize wr.setCell ⟨g + 3, m, none⟩ (.int .u8 0) = w1 at *
            obtain ⟨f1, hf1⟩ : ∃ f', f' = updB f m false := ⟨_, rfl⟩
            rw [← hf1] at HJ1
            have HF1 := Hid.mk' hf1
            clear hf1 cm fm
            obtain ⟨q1, hq1⟩ : ∃ q, q = r := ⟨_, rfl⟩
            have s1 : (m : Int) - 128 = (q1 : Int) := by have := HM.out; omega
            have b1 : q1 < 256 := by omega
            have b1' : (q1 : Int) < 256 := by omega
            have c1 := bl_cell HJ1.out.p q1 b1
            have r1 := HJ1.out.p.free q1
            have x1 : bits .xor .u8 (bo (f1 q1) : Int) 1 = (bo (!f1 q1) : Int) := bo_not _
            have HQ1 := Hid.mk' hq1
            clear hq1
            go_upto_region 16 with fail
            have HJ2 := Hid.mk' (HJ1.out.put HG.out q1 b1 (!f1 q1))
            generalize w1.setCell ⟨g + 3, q1, none⟩ (.int .u8 (bo (!f1 q1) : Nat)) = w2 at *
            obtain ⟨f2, hf2⟩ : ∃ f', f' = updB f1 q1 (!f1 q1) := ⟨_, rfl⟩
            rw [← hf2] at HJ2
            have HF2 := Hid.mk' hf2
            clear hf2 s1 c1 r1 x1 HJ1
            obtain ⟨q2, hq2⟩ : ∃ q, q = r + 1 := ⟨_, rfl⟩
            have s2 : (m : Int) - 127 = (q2 : Int) := by have := HM.out; omega
            have b2 : q2 < 256 := by omega
            have b2' : (q2 : Int) < 256 := by omega
            have c2 := bl_cell HJ2.out.p q2 b2
            have r2 := HJ2.out.p.free q2
            have x2 : bits .xor .u8 (bo (f2 q2) : Int) 1 = (bo (!f2 q2) : Int) := bo_not _
            have HQ2 := Hid.mk' hq2
            clear hq2
            go_upto_region 17 with fail
            have HJ3 := Hid.mk' (HJ2.out.put HG.out q2 b2 (!f2 q2))
            generalize w2.setCell ⟨g + 3, q2, none⟩ (.int .u8 (bo (!f2 q2) : Nat)) = w3 at *
            obtain ⟨f3, hf3⟩ : ∃ f', f' = updB f2 q2 (!f2 q2) := ⟨_, rfl⟩
            rw [← hf3] at HJ3
            have HF3 := Hid.mk' hf3
            clear hf3 s2 c2 r2 x2 HJ2
            obtain ⟨q3, hq3⟩ : ∃ q, q = r + 2 := ⟨_, rfl⟩
            have s3 : (m : Int) - 126 = (q3 : Int) := by have := HM.out; omega
            have b3 : q3 < 256 := by omega
            have b3' : (q3 : Int) < 256 := by omega
            have c3 := bl_cell HJ3.out.p q3 b3
            have r3 := HJ3.out.p.free q3
            have x3 : bits .xor .u8 (bo (f3 q3) : Int) 1 = (bo (!f3 q3) : Int) := bo_not _
            have HQ3 := Hid.mk' hq3
            clear hq3
            go_upto_region 18 with fail
            have HJ4 := Hid.mk' (HJ3.out.put HG.out q3 b3 (!f3 q3))
            generalize w3.setCell ⟨g + 3, q3, none⟩ (.int .u8 (bo (!f3 q3) : Nat)) = w4 at *
            obtain ⟨f4, hf4⟩ : ∃ f', f' = updB f3 q3 (!f3 q3) := ⟨_, rfl⟩
            rw [← hf4] at HJ4
            have HF4 := Hid.mk' hf4
            clear hf4 s3 c3 r3 x3 HJ3
            obtain ⟨q4, hq4⟩ : ∃ q, q = r + 7 := ⟨_, rfl⟩
            have s4 : (m : Int) - 121 = (q4 : Int) := by have := HM.out; omega
            have b4 : q4 < 256 := by omega
            have b4' : (q4 : Int) < 256 := by omega
            have c4 := bl_cell HJ4.out.p q4 b4
            have r4 := HJ4.out.p.free q4
            have x4 : bits .xor .u8 (bo (f4 q4) : Int) 1 = (bo (!f4 q4) : Int) := bo_not _
            have HQ4 := Hid.mk' hq4
            clear hq4
            go_wp2
            have hmm := HM.out
            have hJ5 := HJ4.out.put HG.out q4 b4 (!f4 q4)
            have ed : updB f4 q4 (!f4 q4) = downF f r := by
              unfold downF
              simp only [Bool.xor_true]
              rw [HF4.out, HF3.out, HF2.out, HF1.out, HQ1.out, HQ2.out, HQ3.out, HQ4.out, hmm]
            rw [ed] at hJ5
            refine ⟨⟨r, downF f r, by omega, by rw [hmm]; go_num, ?_, fun t ht => downF_top f r (fun t ht => HT2.out t (by omega)) t (by omega), hJ5⟩, by simp [intOf]; omega⟩
            rw [downF_red f r hr (by rw [← hmm]; exact HFM.out)]
            exact HR2.out
end Go.Proofs.Ytpdkdeebdhdhgaa
