/- The program's generated. -/
import Derived.Test.YtdlalpklopnpjaaFieldSet
namespace Go.Proofs.Ytdlalpklopnpjaa
open Go.RowKit

/-- The powers of 3. -/
def gens : List Nat := (List.range 255).map fun i => b8 (pw 3#8 i)
theorem gens_len : gens.length = 255 := by simp [gens]
theorem gens_at (i : Nat) (h : i < 255) : gens[i]? = some (b8 (pw 3#8 i)) := by simp [gens, h]
theorem gens_of {D : List Nat} (hl : D.length = 255) (h : ∀ i, i < 255 → D[i]? = some (b8 (pw 3#8 i))) : D = gens := by
  apply List.ext_getElem?
  intro i
  by_cases hi : i < 255
  · rw [h i hi, gens_at i hi]
  · rw [List.getElem?_eq_none (by omega), List.getElem?_eq_none (by rw [gens_len]; omega)]
theorem i255s : (Try.prog.info? 70).map (·.size) = some 255 := by kernel_rfl
set_option maxRecDepth 100000 in
set_option maxHeartbeats 1000000 in
theorem generated_any (w : World) :
    Calls Try.prog 39 #[] w fun e w' => e = .returned (.agg (u8s gens).toArray) ∧ But (fun _ => False) w w' := by
  have hz : ∀ w : World, (zeroValue 70).run Try.prog w = .ok (.agg (u8s (List.replicate 255 0)).toArray) w := fun _ => by kernel_rfl
  obtain ⟨Z, hZ⟩ : ∃ Z, Z = (u8s (List.replicate 255 0)).toArray := ⟨_, rfl⟩
  rw [← hZ] at hz
  have HZ := Hid.mk' hZ
  clear hZ
  have HT := Hid.mk' (fun x w => times_any x 3#8 w)
  obtain ⟨W0, hW0⟩ : ∃ W0, W0 = (w.alloc (.cells Z 70)).alloc (.cells Z 70) := ⟨_, rfl⟩
  have HB0 : Hid (Blk W0 w.heap.size 70 (u8s (List.replicate 255 0))) := by
    rw [hW0, HZ.out]; exact (Blk.new rfl).but ((But.refl (fun _ => False) _).alloc _) (fun h => h)
  have HB1 : Hid (Blk W0 (w.heap.size + 1) 70 (u8s (List.replicate 255 0))) := by
    rw [hW0, HZ.out]; exact Blk.new (by simp)
  have HBB : Hid (But (fun _ => False) w W0) := by rw [hW0]; exact ((But.refl _ w).alloc _).alloc _
  have HW0 := Hid.mk' hW0
  clear hW0
  go_enter Try.func39, Try.ntmps39
  go_wp2
  rw [← HW0.out]
  obtain ⟨g, hg⟩ : ∃ g, g = w.heap.size := ⟨_, rfl⟩
  rw [← hg] at HB0 HB1 ⊢
  have HG := Hid.mk' hg
  clear hg HW0 hz HZ
  go_loopw [2, 4] (fun p i wr => ∃ (k : Nat) (D : List Nat), k ≤ 255 ∧ i = .int .i64 k ∧ p = .int .u8 (b8 (pw 3#8 k)) ∧ D.length = 255 ∧ (∀ j, j < k → D[j]? = some (b8 (pw 3#8 j))) ∧ Blk wr g 70 (u8s (List.replicate 255 0)) ∧ Blk wr (g + 1) 70 (u8s D) ∧ But (fun _ => False) w wr) (fun _ i _ => 255 - (intOf i).toNat)
  case atStart => exact ⟨0, List.replicate 255 0, by decide, rfl, rfl, by simp, fun j hj => absurd hj (Nat.not_lt_zero _), HB0.out, HB1.out, HBB.out⟩
  case round =>
    obtain ⟨k, D, hk, rfl, rfl, hD, hj, h0, h1, hbt⟩ := hrel
    have H0 := Hid.mk' h0
    have H1 := Hid.mk' h1
    have HBT := Hid.mk' hbt
    have HJ := Hid.mk' hj
    have HD := Hid.mk' hD
    have hfr := h1.free k
    have hcell := h1.cell k
    clear h0 h1 hbt hj hD
    by_cases hlt : k < 255
    · have hlti : (k : Int) < 255 := by omega
      rw [u8s_get D k (by rw [HD.out]; exact hlt)] at hcell
      go_wp2_with fail
      refine Calls.mono (HT.out _ _) ?_
      rintro e w1 ⟨rfl, hw⟩
      have hw' := hw.symm
      subst hw'
      go_wp2
      refine ⟨⟨k + 1, D.set k (b8 (pw 3#8 k)), by omega, by go_num, rfl, by simp [HD.out], ?_, ?_, ?_, ?_⟩, by simp [intOf]; omega⟩
      · intro j hj
        by_cases hjk : j = k
        · subst hjk; rw [List.getElem?_set_self (by rw [HD.out]; exact hlt)]
        · rw [List.getElem?_set_ne (fun e => hjk e.symm)]; exact HJ.out j (by omega)
      · exact H0.out.but ((But.refl (· = g + 1) wr).setCell (fun _ => rfl) _) (by omega)
      · rw [← u8s_set]; exact H1.out.set k _
      · exact HBT.out.setCell (fun h => by have h' : g + 1 < w.heap.size := h; have := HG.out; omega) _
    · have hk5 : k = 255 := by omega
      subst hk5
      have e := gens_of HD.out HJ.out
      subst e
      clear hcell
      go_wp2_with (first
        | (refine wpList_load_u8s Try.underlying70 i255s rfl _ rfl (g + 1) gens gens_len rfl H1.out ?_)
        | (refine wpList_store_u8s i255s rfl _ _ rfl g gens gens_len rfl (by exact rfl) _ (by simp [u8s]) H0.out ?_; intro w2 hb2 hbut2))
      refine bodyPost_ret (results_cell_row rfl _ _ g _ _ _ _ rfl hb2 Try.underlying70 rfl (by rw [i255s]; simp [u8s, gens_len])) rfl ⟨rfl, ?_⟩
      exact HBT.out.then hbut2 (fun i hi e => by have := HG.out; omega)
end Go.Proofs.Ytdlalpklopnpjaa
