/- count: Nonce. -/
import Derived.Test.YtlfppgdaoijklaaCtMath
import Derived.Deep.Cut
namespace Go.Proofs.Ytlfppgdaoijklaa
open Go.RowKit

theorem zeroN (w : World) : (zeroValue 37).run Try.prog w = .ok (.agg (u8s (List.replicate 12 0)).toArray) w := by kernel_rfl
theorem i12n : (Try.prog.info? 37).map (·.size) = some 12 := by kernel_rfl
theorem slice12 (w : World) (g : Nat) : (Instr.sliceAt 37 (.pointer (some ⟨g, 0, none⟩)) none none none).run Try.prog w = .ok (.slice (some ⟨g, 0, none⟩) 12 12) w := by kernel_rfl
theorem Ow.held {w : World} {base : Nat} {v : Value} {zs : List Nat} (h : Ow w base v zs) (h0 : 0 < zs.length) : ∃ g cap, v = .slice (some ⟨g, 0, none⟩) zs.length cap ∧ zs.length ≤ cap ∧ base ≤ g ∧ g < w.heap.size ∧ ∀ i, i < zs.length → w.cell? ⟨g, 0 + i, none⟩ = some (.int .u8 (zs.getD i 0 : Nat)) := by
  rcases h.shape with ⟨_, rfl⟩ | ⟨g, cap, rfl, h1, h2, h3, _, h5⟩
  · exact absurd h0 (by decide)
  · exact ⟨g, cap, rfl, h1, h2, h3, fun i hi => by rw [Nat.zero_add]; exact h5 i hi⟩

set_option maxRecDepth 100000 in
set_option maxHeartbeats 2000000 in
theorem nonce_any {w : World} (x : En) (hx : x.ok) :
    Calls Try.prog 12 #[evalE x] w fun r w' => r = .returned (.agg (u8s (nbs x)).toArray) ∧ But (fun _ => False) w w' := by
  obtain ⟨E, B, S⟩ := x
  obtain ⟨h1, h2, h3⟩ := hx
  obtain ⟨g, hg⟩ : ∃ g, g = w.heap.size := ⟨_, rfl⟩
  have hz := zeroN
  obtain ⟨Z, hZ⟩ : ∃ Z, Z = (u8s (List.replicate 12 0)).toArray := ⟨_, rfl⟩
  rw [← hZ] at hz
  obtain ⟨W0, hW0⟩ : ∃ W0, W0 = (w.alloc (.cells #[.int .u32 (E : Int), .int .u32 (B : Int), .int .u64 (S : Int)] 30)).alloc (.cells Z 37) := ⟨_, rfl⟩
  have al : ∀ (x : World) (o : Obj), But (fun _ => False) x (x.alloc o) := fun x o => (But.refl _ x).alloc o
  have hT0 : But (fun _ => False) w W0 := by rw [hW0]; exact (al _ _).alloc _
  have hE0 : Blk W0 g 30 [.int .u32 (E : Int), .int .u32 (B : Int), .int .u64 (S : Int)] := by rw [hW0]; exact (Blk.new hg.symm).but (al _ _) (fun h => h)
  have hR0 : Blk W0 (g + 1) 37 (u8s (List.replicate 12 0)) := by rw [hW0, hZ]; exact Blk.new (by simp [hg])
  have HE0 := Hid.mk' hE0
  have HR0 := Hid.mk' hR0
  have HT0 := Hid.mk' hT0
  have HG := Hid.mk' hg
  have HW0 := Hid.mk' hW0
  have HZ := Hid.mk' hZ
  have c1 : W0.cell? ⟨g, 1, none⟩ = some (.int .u32 (B : Int)) := by rw [hE0.cell]; rfl
  have HP1 := Hid.mk' (put_ok (Bs.nil W0) (by decide) B 4 (by decide) (by decide) (by simp only at h2; omega))
  have hB : (B : Int) < 4294967296 := by simp only at h2; omega
  have HS := Hid.mk' h3
  clear hE0 hR0 hT0 hg hW0 hZ al h1 h2 h3
  unfold evalE ecells
  go_enter Try.func12, Try.ntmps12
  go_upto_region 1 with fail
  rw [← HW0.out, ← HG.out]
  go_wp2_with fail
  refine Calls.mono HP1.out ?_
  rintro e w1 ⟨v1, rfl, ho1, hb1⟩
  rw [List.nil_append] at ho1
  have HT1 : Hid (But (fun _ => False) W0 w1) := But.of hb1
  have HP2 := Hid.mk' (put_ok ho1.bs (by rw [be_len]; decide) S 8 (by decide) (by decide) (by have := HS.out; omega))
  have hE1 := HE0.out.but HT1.out (fun h => h)
  have c2 : w1.cell? ⟨g, 2, none⟩ = some (.int .u64 (S : Int)) := by rw [hE1.cell]; rfl
  clear ho1 hb1 HP1 hE1
  go_wp2_with fail
  refine Calls.mono HP2.out ?_
  rintro e w2 ⟨v2, rfl, ho2, hb2⟩
  have HT2 : Hid (But (fun _ => False) w1 w2) := But.of hb2
  obtain ⟨zs, hzs⟩ : ∃ zs, zs = be B 4 ++ be S 8 := ⟨_, rfl⟩
  rw [← hzs] at ho2
  have hzl : zs.length = 12 := by rw [hzs, List.length_append, be_len, be_len]
  obtain ⟨gv, cv, rfl, -, -, hgv, hcv⟩ := ho2.held (by omega)
  rw [hzl]
  obtain ⟨W3, hW3⟩ : ∃ W3, W3 = w2.alloc (.cells Z 37) := ⟨_, rfl⟩
  obtain ⟨g3, hg3⟩ : ∃ g3, g3 = w2.heap.size := ⟨_, rfl⟩
  have hT3 : But (fun _ => False) w2 W3 := by rw [hW3]; exact (But.refl _ _).alloc _
  have hN3 : Blk W3 g3 37 ([] ++ u8s (List.replicate 12 0) ++ []) := by rw [hW3, HZ.out]; exact Blk.new hg3.symm
  have hcp := run_copy_blk (off := 0) (dLen := 12) (dCap := 12) (sCap := cv) (b := gv) (so := 0) (n := 12) (ys := zs) 3 hN3 rfl (by simp [u8s]) (by rw [hzl]; rfl) (fun i hi => (World.cell?_of_block (hT3.block gv hgv (fun h => h))).trans (hcv i hi))
  rw [List.take_of_length_le (by omega), hzl] at hcp
  obtain ⟨W4, hW4⟩ : ∃ W4, W4 = W3.setRow g3 ([] ++ u8s zs ++ []).toArray := ⟨_, rfl⟩
  rw [← hW4] at hcp
  have HB4 : Hid (But (· = g3) W3 W4) := by rw [hW4]; exact (But.refl (· = g3) W3).setRow (fun _ => rfl) _
  have HN4 : Hid (Blk W4 g3 37 (u8s zs)) := by
    have := hN3.row ([] ++ u8s zs ++ [])
    rw [← hW4] at this
    show Blk _ _ _ _
    simpa using this
  have h3g : g + 1 < g3 := by
    have := HR0.out.lt
    have := HT1.out.size
    have := HT2.out.size
    omega
  have HR4 : Hid (Blk W4 (g + 1) 37 (u8s (List.replicate 12 0))) := (((HR0.out.but HT1.out (fun h => h)).but HT2.out (fun h => h)).but hT3 (fun h => h)).but HB4.out (show ¬ (g + 1 = g3) by omega)
  have HT3 := Hid.mk' hT3
  have HG3 := Hid.mk' hg3
  have HGG := Hid.mk' h3g
  have HW3 := Hid.mk' hW3
  have HZS := Hid.mk' hzs
  have HZL := Hid.mk' hzl
  have hsl := slice12 W3 g3
  clear hT3 hN3 hW3 hg3 hzs hzl hcv hgv ho2 hb2 HP2 h3g hW4 c1 c2
  go_upto_region 4 with fail
  rw [← HW3.out, ← HG3.out]
  go_upto_region 5 with fail
  go_wp2_with (first
    | (refine wpList_load_u8s Try.underlying37 i12n rfl _ rfl g3 zs HZL.out rfl HN4.out ?_)
    | (refine wpList_store_u8s i12n rfl _ _ rfl (g + 1) zs HZL.out rfl (by exact rfl) _ (by simp [u8s]) HR4.out ?_; intro w9 hb9 hbut9))
  refine bodyPost_ret (results_cell_row rfl _ _ (g + 1) _ _ _ _ rfl hb9 Try.underlying37 rfl (by rw [i12n]; simp [u8s, HZL.out])) rfl ⟨by rw [HZS.out]; rfl, ?_⟩
  have hsz : w.heap.size < g + 1 := by have := HG.out; omega
  exact ((((HT0.out.trans HT1.out).trans HT2.out).trans HT3.out).then HB4.out (fun j hj e => by have := HGG.out; omega)).then hbut9 (fun j hj e => by omega)
theorem g12 : Try.prog.eqGuardType Try.prog.depth 37 = false := by kernel_rfl
theorem equalNn (x y : En) (w : World) : (Op.equalIn 10000 37 (.agg (u8s (nbs x)).toArray) (.agg (u8s (nbs y)).toArray)).run Try.prog w = .ok (decide (nbs x = nbs y)) w :=
  equalN Try.underlying37 (nbs x) (nbs y) (nbs_len x) (nbs_len y) w
end Go.Proofs.Ytlfppgdaoijklaa
