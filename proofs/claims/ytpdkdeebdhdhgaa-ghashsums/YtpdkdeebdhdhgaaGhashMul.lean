/- ghash: products by the multiples of an element. -/
import Derived.Test.YtpdkdeebdhdhgaaGhashTab
namespace Go.Proofs.Ytpdkdeebdhdhgaa
open Go.RowKit

theorem ev_zero : ev 0#128 = [.int .u64 0, .int .u64 0] := by
  unfold ev el
  rw [fw_zero, sw_zero]; rfl
/-- What memory is amid times. -/
structure MulI (w : World) (g b : Nat) (T : TypeId) (h e s : G) (wr : World) : Prop where
  row : Blk wr g T (tb h 128)
  arg : Blk wr b 39 (ev e)
  res : Blk wr (b + 1) 39 (ev 0#128)
  sum : Blk wr (b + 2) 39 (ev s)
  but : But (fun _ => False) w wr
theorem MulI.then {w wr w' : World} {g b : Nat} {T : TypeId} {h e s : G} (i : MulI w g b T h e s wr) (k : But (fun _ => False) wr w') : MulI w g b T h e s w' :=
  ⟨i.row.but k (fun h => h), i.arg.but k (fun h => h), i.res.but k (fun h => h), i.sum.but k (fun h => h), i.but.trans k⟩
theorem MulI.put {w wr w' : World} {g b : Nat} {T : TypeId} {h e s s' : G} (i : MulI w g b T h e s wr) (k : But (· = b + 2) wr w') (hb : Blk w' (b + 2) 39 (ev s')) (h1 : g < b) (h2 : w.heap.size ≤ b) : MulI w g b T h e s' w' :=
  ⟨i.row.but k (show ¬ (g = b + 2) by omega), i.arg.but k (show ¬ (b = b + 2) by omega), i.res.but k (show ¬ (b + 1 = b + 2) by omega), hb, i.but.then k (fun j hj e => by omega)⟩
theorem ev_first {w : World} {b : Nat} {T : TypeId} {e : G} (h : Blk w b T (ev e)) : w.cell? ⟨b, 0, none⟩ = some (.int .u64 (n6 (fw e) : Int)) := h.cell 0
theorem ev_second {w : World} {b : Nat} {T : TypeId} {e : G} (h : Blk w b T (ev e)) : w.cell? ⟨b, 1, none⟩ = some (.int .u64 (n6 (sw e) : Int)) := h.cell 1
set_option maxRecDepth 100000 in
set_option maxHeartbeats 2000000 in
theorem times_any {w : World} {g : Nat} {T : TypeId} {h e : G} (hb : Blk w g T (tb h 128)) :
    Calls Try.prog 22 #[.pointer (some ⟨g, 0, none⟩), .agg (ev e).toArray] w fun r w' => r = .returned (.agg (ev (gm e h)).toArray) ∧ But (fun _ => False) w w' := by
  obtain ⟨b, hbb⟩ : ∃ b, b = w.heap.size := ⟨_, rfl⟩
  have hgb : g < b := by rw [hbb]; exact hb.lt
  obtain ⟨C, hC⟩ : ∃ C, C = (ev e).toArray := ⟨_, rfl⟩
  rw [← hC]
  have HB := Hid.mk' hbb
  have HI0 : Hid (MulI w g b T h e (two h e 0) (((w.alloc (.cells C 39)).alloc (.cells #[.int .u64 0, .int .u64 0] 39)).alloc (.cells #[.int .u64 0, .int .u64 0] 39))) := by
    have al : ∀ (x : World) (o : Obj), But (fun _ => False) x (x.alloc o) := fun x o => (But.refl _ x).alloc o
    rw [two_zero, hC]
    refine ⟨((hb.but (al _ _) (fun h => h)).but (al _ _) (fun h => h)).but (al _ _) (fun h => h), ((Blk.new hbb.symm).but (al _ _) (fun h => h)).but (al _ _) (fun h => h), ?_, ?_, (((But.refl _ w).alloc _).alloc _).alloc _⟩
    · rw [ev_zero]
      exact (Blk.new (by simp [hbb])).but (al _ _) (fun h => h)
    · rw [ev_zero]
      exact Blk.new (by simp [hbb])
  clear hC hb
  go_enter Try.func22, Try.ntmps22
  go_wp2
  rw [← hbb, show b + 1 + 1 = b + 2 from rfl]
  generalize (((w.alloc (.cells C 39)).alloc (.cells #[.int .u64 0, .int .u64 0] 39)).alloc (.cells #[.int .u64 0, .int .u64 0] 39)) = W0 at *
  clear hbb
  go_loopw [7] (fun i wr => ∃ k : Nat, k ≤ 64 ∧ i = .int .i64 k ∧ MulI w g b T h e (two h e k) wr) (fun i _ => 64 - (intOf i).toNat)
  case atStart => exact ⟨0, by omega, rfl, HI0.out⟩
  case round =>
    obtain ⟨k, hk, rfl, hI⟩ := hrel
    obtain ⟨s, hs⟩ : ∃ s, s = two h e k := ⟨_, rfl⟩
    rw [← hs] at hI
    have HS := Hid.mk' hs
    have HI := Hid.mk' hI
    clear hI HI0 hs
    by_cases hlt : k < 64
    · have hki : (k : Int) < 64 := by omega
      have hkj : (k : Int) < 128 := by omega
      obtain ⟨m, hm⟩ : ∃ m, m = 64 + k := ⟨_, rfl⟩
      have hmw : IntKind.i64.wrap (64 + (k : Int)) = (m : Int) := by rw [IntKind.wrap_i64, hm]; omega
      have hmj : (m : Int) < 128 := by omega
      have hml : m < 128 := by omega
      obtain ⟨x, hx⟩ : ∃ x, x = fw e <<< k := ⟨_, rfl⟩
      obtain ⟨y, hy⟩ : ∃ y, y = sw e <<< k := ⟨_, rfl⟩
      have hsx := shl_n6 (fw e) k
      have hsy := shl_n6 (sw e) k
      rw [← hx] at hsx
      rw [← hy] at hsy
      have HX : Hid (x.getLsbD 63 = e.getLsbD k) := by show _ = _; rw [hx, fw_top e k hlt]
      have HY : Hid (y.getLsbD 63 = e.getLsbD m) := by show _ = _; rw [hy, sw_top e k hlt, hm]
      obtain ⟨c, hc⟩ : ∃ c, c = cx (e.getLsbD k) (mxs k h) := ⟨_, rfl⟩
      have HCC := Hid.mk' hc
      have HM := Hid.mk' hm
      clear hx hy hc hm
      go_upto_region 5 with fail
      refine region_class (l := [_, _, _, _, _, _, _, _, _, _, _, _, _]) (o := _) (fun w' => But (fun _ => False) wr w') (by kernel_rfl) (by kernel_rfl) (by kernel_rfl) rfl (by kernel_rfl) (by kernel_rfl) ((But.refl _ wr).drew) ?_
      refine class_val (.agg (ev s).toArray) rfl (fun w' hw' => run_load_ev (blk_add (HI.out.then hw').sum) rfl rfl) ?_
      intro K hK; go_simp; refine hK _ ?_; clear hK K
      refine class_val _ rfl (fun w' _ => rfl) ?_
      intro K hK; go_simp; refine hK _ ?_; clear hK K
      refine class_val _ rfl (fun w' _ => rfl) ?_
      intro K hK; go_simp; refine hK _ ?_; clear hK K
      refine class_val _ rfl (fun w' _ => rfl) ?_
      intro K hK; go_simp; refine hK _ ?_; clear hK K
      refine class_val (.pointer (some ⟨g, k * 2, none⟩)) rfl (fun w' _ => by go_simp) ?_
      intro K hK; go_simp; refine hK _ ?_; clear hK K
      refine class_val (.agg (ev (mxs k h)).toArray) rfl (fun w' hw' => run_load_ev (tb_cells (HI.out.then hw').row k (k * 2) (by omega) rfl) rfl rfl) ?_
      intro K hK; go_simp; refine hK _ ?_; clear hK K
      refine class_val (.pointer (some ⟨b, 0, none⟩)) rfl (fun w' _ => by go_simp) ?_
      intro K hK; go_simp; refine hK _ ?_; clear hK K
      refine class_val (.int .u64 (n6 (fw e) : Int)) rfl (fun w' hw' => by have hc := ev_first (HI.out.then hw').arg; go_simp) ?_
      intro K hK; go_simp; refine hK _ ?_; clear hK K
      refine class_val _ rfl (fun w' _ => rfl) ?_
      intro K hK; go_simp; refine hK _ ?_; clear hK K
      refine class_val (.int .u64 (n6 x : Int)) rfl (fun w' _ => by go_simp) ?_
      intro K hK; go_simp; refine hK _ ?_; clear hK K
      refine class_call (.int .u64 (n6 (msk (e.getLsbD k)) : Int)) 34 #[.int .u64 (n6 x : Int)] rfl (fun w' _ => by kernel_rfl) (fun w' hw' => (spread_w x).mono (fun r w'' h => ⟨by rw [h.1, HX.out], by rw [h.2]; exact hw'⟩)) ?_
      intro K hK; go_simp; refine hK _ ?_; clear hK K
      refine class_call (.agg (ev c).toArray) 33 #[.agg (ev (mxs k h)).toArray, .int .u64 (n6 (msk (e.getLsbD k)) : Int)] rfl (fun w' _ => by kernel_rfl) (fun w' hw' => (masked_any (mxs k h) (e.getLsbD k)).mono (fun r w'' h => ⟨by rw [h.1, HCC.out], hw'.trans h.2⟩)) ?_
      intro K hK; go_simp; refine hK _ ?_; clear hK K
      refine class_call (.agg (ev (s ^^^ c)).toArray) 27 #[.agg (ev s).toArray, .agg (ev c).toArray] rfl (fun w' _ => by kernel_rfl) (fun w' hw' => (plus_any s c).mono (fun r w'' h => ⟨h.1, hw'.trans h.2⟩)) ?_
      intro K hK; go_simp; refine hK _ ?_; clear hK K
      refine wpQuiet_nil ?_
      intro w5 hw5
      have HI5 := Hid.mk' (HI.out.then hw5)
      obtain ⟨t, ht⟩ : ∃ t, t = s ^^^ c := ⟨_, rfl⟩
      rw [← ht]
      have HT := Hid.mk' ht
      clear ht
      go_upto_region 6 with (refine wpList_store_ev rfl _ _ rfl (b + 2) 39 t s rfl (by exact rfl) HI5.out.sum ?_; intro w6 hs6 hb6)
      have HI6 := Hid.mk' (HI5.out.put hb6 hs6 hgb (by rw [HB.out]; exact Nat.le_refl _))
      obtain ⟨d, hd⟩ : ∃ d, d = cx (e.getLsbD m) (mxs m h) := ⟨_, rfl⟩
      have HDD := Hid.mk' hd
      clear hd hs6 hb6 HI5 HI
      refine region_class (l := [_, _, _, _, _, _, _, _, _, _, _, _, _, _]) (o := _) (fun w' => But (fun _ => False) w6 w') (by kernel_rfl) (by kernel_rfl) (by kernel_rfl) rfl (by kernel_rfl) (by kernel_rfl) ((But.refl _ w6).drew) ?_
      refine class_val (.agg (ev t).toArray) rfl (fun w' hw' => run_load_ev (blk_add (HI6.out.then hw').sum) rfl rfl) ?_
      intro K hK; go_simp; refine hK _ ?_; clear hK K
      refine class_val _ rfl (fun w' _ => rfl) ?_
      intro K hK; go_simp; refine hK _ ?_; clear hK K
      refine class_val _ rfl (fun w' _ => rfl) ?_
      intro K hK; go_simp; refine hK _ ?_; clear hK K
      refine class_val (.int .i64 (m : Int)) rfl (fun w' _ => by go_simp) ?_
      intro K hK; go_simp; refine hK _ ?_; clear hK K
      refine class_val _ rfl (fun w' _ => rfl) ?_
      intro K hK; go_simp; refine hK _ ?_; clear hK K
      refine class_val (.pointer (some ⟨g, m * 2, none⟩)) rfl (fun w' _ => by go_simp) ?_
      intro K hK; go_simp; refine hK _ ?_; clear hK K
      refine class_val (.agg (ev (mxs m h)).toArray) rfl (fun w' hw' => run_load_ev (tb_cells (HI6.out.then hw').row m (m * 2) hml rfl) rfl rfl) ?_
      intro K hK; go_simp; refine hK _ ?_; clear hK K
      refine class_val (.pointer (some ⟨b, 1, none⟩)) rfl (fun w' _ => by go_simp) ?_
      intro K hK; go_simp; refine hK _ ?_; clear hK K
      refine class_val (.int .u64 (n6 (sw e) : Int)) rfl (fun w' hw' => by have hc := ev_second (HI6.out.then hw').arg; go_simp) ?_
      intro K hK; go_simp; refine hK _ ?_; clear hK K
      refine class_val _ rfl (fun w' _ => rfl) ?_
      intro K hK; go_simp; refine hK _ ?_; clear hK K
      refine class_val (.int .u64 (n6 y : Int)) rfl (fun w' _ => by go_simp) ?_
      intro K hK; go_simp; refine hK _ ?_; clear hK K
      refine class_call (.int .u64 (n6 (msk (e.getLsbD m)) : Int)) 34 #[.int .u64 (n6 y : Int)] rfl (fun w' _ => by kernel_rfl) (fun w' hw' => (spread_w y).mono (fun r w'' h => ⟨by rw [h.1, HY.out], by rw [h.2]; exact hw'⟩)) ?_
      intro K hK; go_simp; refine hK _ ?_; clear hK K
      refine class_call (.agg (ev d).toArray) 33 #[.agg (ev (mxs m h)).toArray, .int .u64 (n6 (msk (e.getLsbD m)) : Int)] rfl (fun w' _ => by kernel_rfl) (fun w' hw' => (masked_any (mxs m h) (e.getLsbD m)).mono (fun r w'' h => ⟨by rw [h.1, HDD.out], hw'.trans h.2⟩)) ?_
      intro K hK; go_simp; refine hK _ ?_; clear hK K
      refine class_call (.agg (ev (t ^^^ d)).toArray) 27 #[.agg (ev t).toArray, .agg (ev d).toArray] rfl (fun w' _ => by kernel_rfl) (fun w' hw' => (plus_any t d).mono (fun r w'' h => ⟨h.1, hw'.trans h.2⟩)) ?_
      intro K hK; go_simp; refine hK _ ?_; clear hK K
      refine wpQuiet_nil ?_
      intro w7 hw7
      have HI7 := Hid.mk' (HI6.out.then hw7)
      obtain ⟨u, hu⟩ : ∃ u, u = t ^^^ d := ⟨_, rfl⟩
      rw [← hu]
      have HU := Hid.mk' hu
      clear hu
      go_wp2_with (refine wpList_store_ev rfl _ _ rfl (b + 2) 39 u t rfl (by exact rfl) HI7.out.sum ?_; intro w8 hs8 hb8)
      refine ⟨⟨k + 1, by omega, by go_num, ?_⟩, by simp [intOf]; omega⟩
      rw [two_next, ← HS.out, ← HCC.out, ← HT.out, ← HM.out, ← HDD.out, ← HU.out]
      exact HI7.out.put hb8 hs8 hgb (by rw [HB.out]; exact Nat.le_refl _)
    · have hkn : k = 64 := by omega
      subst hkn
      go_wp2_with (first
        | (refine wpList_load_ev rfl _ rfl ⟨b + 2, 0, none⟩ s rfl (blk_add HI.out.sum) ?_)
        | (refine wpList_store_ev rfl _ _ rfl (b + 1) 39 s 0#128 rfl (by exact rfl) HI.out.res ?_; intro w9 hs9 hb9))
      refine bodyPost_ret (ret_el rfl _ _ (b + 1) 39 _ _ rfl hs9) rfl ⟨?_, HI.out.but.then hb9 (fun j hj e => by have := HB.out; omega)⟩
      rw [← two_all, ← HS.out]
      rfl
end Go.Proofs.Ytpdkdeebdhdhgaa
