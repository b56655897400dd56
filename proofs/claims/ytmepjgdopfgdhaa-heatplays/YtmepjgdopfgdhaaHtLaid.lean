/- The law's laid: heats behind touches. -/
import Derived.Test.YtmepjgdopfgdhaaHtBoth
namespace Go.Proofs.Ytmepjgdopfgdhaa
open Go.RowKit

def hh (x : Int) : Nat := 1 + (x % 1000).toNat
structure LaidIs (w : World) (x : Int) (n : Nat) (A : Nat → HA) (e : Ending) (w' : World) : Prop where
  ex : ∃ gh gm gx, e = .returned (.tuple #[.pointer (some ⟨gh, 0, none⟩), .pointer (some ⟨gx, 0, none⟩)]) ∧ Hx w w' gh gm gx (hh x) (min n 200) (look (tch (hh x) A (min n 200))) (min n 200) (tch (hh x) A (min n 200))
set_option maxRecDepth 100000 in
set_option maxHeartbeats 2000000 in
theorem laid_any (x : Int) {w : World} {v : Value} {n : Nat} {A : Nat → HA} (hv : HActs w v n A) :
    Calls Try.prog 18 #[.int .i64 x, v] w fun e w' => LaidIs w x n A e w' := by
  have HV := Hid.mk' hv
  have hnl := hv.1
  obtain ⟨ao, cap, rfl⟩ := hv.len
  have h5 := Int.emod_nonneg x (b := 1000) (by decide)
  have h6 := Int.emod_lt_of_pos x (b := 1000) (by decide)
  have HP := Hid.mk' (pick_any x 1000 w (by decide) (by decide))
  obtain ⟨half, hhalf⟩ : ∃ half, half = hh x := ⟨_, rfl⟩
  have e1 : (1 : Int) + x % 1000 = (half : Int) := by rw [hhalf]; unfold hh; omega
  have hb : (half : Int) ≤ 1000 := by omega
  have HNW := Hid.mk' (new_any w half (by rw [hhalf]; unfold hh; omega) (by omega))
  obtain ⟨r, hr⟩ : ∃ r, r = x % 1000 := ⟨_, rfl⟩
  rw [← hr] at HP e1
  have hwr : IntKind.i64.wrap (1 + r) = (half : Int) := by rw [e1]; exact wrapN half (by omega)
  have HHF := Hid.mk' hhalf
  obtain ⟨g, hg⟩ : ∃ g, g = w.heap.size := ⟨_, rfl⟩
  rw [← hg] at HNW
  have HGE := Hid.mk' hg
  clear hv h5 h6 hhalf hr hg
  go_enter Try.func18, Try.ntmps18
  go_wp2_with fail
  refine Calls.mono HP.out ?_
  rintro e w' ⟨rfl, hw⟩
  have h2 := hw.symm
  subst h2
  clear hw HP
  go_wp2_with fail
  refine Calls.mono HNW.out ?_
  rintro e w1 ⟨rfl, h1, k1⟩
  have HB := Hid.mk' (Hx.begin HGE.out h1 k1)
  obtain ⟨gx, hgx⟩ : ∃ gx, gx = w1.heap.size := ⟨_, rfl⟩
  rw [← hgx] at HB
  clear h1 k1 HNW e1 hwr hb
  go_wp2
  rw [← hgx]
  clear hgx
  go_loopw [9] (fun iv wr => ∃ i : Nat, i ≤ n ∧ i ≤ 200 ∧ iv = .int .i64 i ∧ Hx w wr (g + 1) g gx half i (look (tch half A i)) i (tch half A i)) (fun iv _ => n - (intOf iv).toNat)
  case atStart => exact ⟨0, Nat.zero_le _, Nat.zero_le _, rfl, HB.out⟩
  case round =>
    obtain ⟨i, hin, hi2, rfl, hX⟩ := hrel
    have HX := Hid.mk' hX
    by_cases hlt : i < n
    · by_cases h200 : i < 200
      · have hlti : (i : Int) < (n : Int) := by omega
        have h200i : (i : Int) < 200 := by omega
        obtain ⟨b, off, cp, e1, hbl, hcell⟩ := HV.out.at hlt
        simp only [Value.slice.injEq] at e1
        obtain ⟨rfl, -, rfl⟩ := e1
        obtain ⟨hok, hcel⟩ := hcell i hlt
        obtain ⟨a, ha⟩ : ∃ a, a = A i := ⟨_, rfl⟩
        have HNX : Hid (tch half A (i + 1) = touched half i (tch half A i) a.key a.y) := by show _ = _; rw [ha]; rfl
        rw [← ha] at hok hcel
        have HA := Hid.mk' ha
        obtain ⟨kd, key, y⟩ := a
        have HC1 : Hid (∀ w', Grow w w' → w'.cell? ⟨b, off + i * 3 + 1, none⟩ = some (.int .i64 key)) := fun w' k => grow_cell k (hcel 1 _ rfl)
        have HC2 : Hid (∀ w', Grow w w' → w'.cell? ⟨b, off + i * 3 + 2, none⟩ = some (.float .f64 y)) := fun w' k => grow_cell k (hcel 2 _ rfl)
        have HKY : Hid (i64 key) := hok.2.1
        clear hX hcell hcel hok ha
        go_upto_region 7 with fail
        refine region_chain [([0, 1, 2, 3, 4, 5, 6, 7, 8, 9, 10], 11)] [] (Grow w) (Grow wr) (by kernel_rfl) (by kernel_rfl) (fun _ _ h k => h.trans k) (fun _ h => HX.out.grow.trans h) ((But.refl _ wr).drew) ?_
        intro ι hne X hX
        have d1 : ∀ z, (X z).cell? ⟨b, off + i * 3 + 1, none⟩ = some (.int .i64 key) := fun z => HC1.out _ (hX z)
        have d2 : ∀ z, (X z).cell? ⟨b, off + i * 3 + 2, none⟩ = some (.float .f64 y) := fun z => HC2.out _ (hX z)
        iterate 11 (refine still_step rfl (fun K hK => ?_); go_simp; refine hK _ ?_; clear hK K)
        refine still_nil ?_
        clear d1 d2 hX hne X ι
        refine turn_call rfl rfl (fun _ w' => Hx w w' (g + 1) g gx half (i + 1) (ttouch half i (look (tch half A i)) key y) i (tch half A i)) (fun _ w' => Grow w w') (fun _ _ _ h k => h.then k) (fun _ _ h => h.grow) (.inr (fun _ _ h => h)) 13 #[.pointer (some ⟨g + 1, 0, none⟩), .int .i64 key, .float .f64 y] (fun _ => by kernel_rfl) (fun w4 h4 => (hx_touch (HX.out.then h4) HKY.out (by omega)).mono (fun e w' h => ⟨_, h.1, h.2.1⟩)) ?_
        rintro v5 - Y hY
        go_simp
        refine hY _ ?_
        clear hY Y
        intro ι hne X hX
        refine still_nil ?_
        clear hX hne X ι
        intro w6 hw6
        have HX6 := Hid.mk' hw6
        clear hw6
        go_upto_region 8 with fail
        refine region_chain [([0, 1, 2, 3, 4, 5, 6, 7, 8, 9, 10], 11)] [] (Grow w) (Grow w6) (by kernel_rfl) (by kernel_rfl) (fun _ _ h k => h.trans k) (fun _ h => HX6.out.grow.trans h) ((But.refl _ w6).drew) ?_
        intro ι hne X hX
        have d1 : ∀ z, (X z).cell? ⟨b, off + i * 3 + 1, none⟩ = some (.int .i64 key) := fun z => HC1.out _ (hX z)
        have d2 : ∀ z, (X z).cell? ⟨b, off + i * 3 + 2, none⟩ = some (.float .f64 y) := fun z => HC2.out _ (hX z)
        iterate 11 (refine still_step rfl (fun K hK => ?_); go_simp; refine hK _ ?_; clear hK K)
        refine still_nil ?_
        clear d1 d2 hX hne X ι
        refine turn_call rfl rfl (fun _ w' => Hx w w' (g + 1) g gx half (i + 1) (look (tch half A (i + 1))) (i + 1) (tch half A (i + 1))) (fun _ w' => Grow w w') (fun _ _ _ h k => h.then k) (fun _ _ h => h.grow) (.inr (fun _ _ h => h)) 14 #[.pointer (some ⟨gx, 0, none⟩), .int .i64 key, .float .f64 y] (fun _ => by kernel_rfl) (fun w4 h4 => (hx_rtouch (HX6.out.then h4) HKY.out (by omega)).mono (fun e w' h => ⟨_, h.1, by rw [HNX.out, look_touched]; exact h.2.1⟩)) ?_
        rintro v5 - Y hY
        go_simp
        refine hY _ ?_
        clear hY Y
        intro ι hne X hX
        refine still_nil ?_
        clear hX hne X ι
        intro w7 hw7
        have HX7 := Hid.mk' hw7
        clear hw7
        go_wp2
        exact ⟨⟨i + 1, by omega, by omega, by go_num, HX7.out⟩, by simp [intOf]; omega⟩
      · have hlti : (i : Int) < (n : Int) := by omega
        have h200i : ¬ (i : Int) < 200 := by omega
        have HE : Hid (min n 200 = i) := by show _ = _; omega
        clear hX
        go_wp2
        refine bodyPost_ret (results_tmp2 rfl _ _ _) rfl ⟨g + 1, g, gx, rfl, ?_⟩
        rw [HE.out, ← HHF.out]
        exact HX.out
    · have hlti : ¬ ((i : Int) < (n : Int)) := by omega
      have HE : Hid (min n 200 = i) := by show _ = _; omega
      clear hX
      go_wp2
      refine bodyPost_ret (results_tmp2 rfl _ _ _) rfl ⟨g + 1, g, gx, rfl, ?_⟩
      rw [HE.out, ← HHF.out]
      exact HX.out
end Go.Proofs.Ytmepjgdopfgdhaa
