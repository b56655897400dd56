/- The program's Key. -/
import Derived.Test.YtkelfjpnjhjmoaaDoorMacAwake
import Derived.Test.YtkelfjpnjhjmoaaDoorMacRow
namespace Go.Proofs.YtkelfjpnjhjmoaaDoor
open Go.RowKit

/-- The key of an epoch. -/
def keyFor (key : List Nat) (n : Nat) (wide : Bool) : List Nat := (hmac key ([116, 104, 105, 109, 98, 108, 101] ++ be n 4 ++ [if wide then 32 else 16])).take (if wide then 32 else 16)
theorem Ps.three {w : World} {v u t : Value} {xs ys zs : List Nat} (h : Bs w v xs) (k : Bs w u ys) (j : Bs w t zs) : Ps (w.alloc (.cells #[v, u, t] 22)) (.slice (some ⟨w.heap.size, 0, none⟩) 3 3) [xs, ys, zs] := by
  have q : But (fun _ => False) w (w.alloc (.cells #[v, u, t] 22)) := (But.refl _ w).alloc _
  have hb : Blk (w.alloc (.cells [v, u, t].toArray 22)) w.heap.size 22 [v, u, t] := Blk.new rfl
  refine .inr ⟨by simp, w.heap.size, 0, 3, rfl, by simp, fun i hi => ?_⟩
  match i, hi with
  | 0, _ => exact ⟨v, hb.cell 0, h.but q (fun _ _ _ h => h)⟩
  | 1, _ => exact ⟨u, hb.cell 1, k.but q (fun _ _ _ h => h)⟩
  | 2, _ => exact ⟨t, hb.cell 2, j.but q (fun _ _ _ h => h)⟩

set_option maxRecDepth 100000 in
set_option maxHeartbeats 4000000 in
theorem mkey_false {w : World} {v : Value} {key : List Nat} (n : Nat) (hv : Bs w v key) (hk : Kw w) (hh : Hw w) (hlen : key.length ≤ 1073741000) (hn : n < 4294967296) :
    Calls Tryd.prog 20 #[v, .int .u32 (n : Int), .bool false] w fun e w' => ∃ v', e = .returned v' ∧ Ow w' w.heap.size v' (keyFor key n false) ∧ Below w.heap.size w w' := by
  have hz2 : ∀ w : World, (zeroValue 27).run Tryd.prog w = .ok (.agg (u8s (List.replicate 32 0)).toArray) w := fun _ => by kernel_rfl
  obtain ⟨O, hO⟩ : ∃ O, O = (u8s (List.replicate 32 0)).toArray := ⟨_, rfl⟩
  rw [← hO] at hz2
  have HO := Hid.mk' hO
  have HPU := Hid.mk' (put_ok (Bs.nil w) (by simp) n 4 (by decide) (by decide) (by rw [show (256 : Nat) ^ 4 = 4294967296 from rfl]; omega))
  have HV := Hid.mk' hv
  have HK := Hid.mk' hk
  have HH := Hid.mk' hh
  obtain ⟨ak, ck, rfl, -, -⟩ := hv.gen
  have HL := Hid.mk' hlen
  clear hO hv hk hh hlen
  go_enter Tryd.func20, Tryd.ntmps20
  go_wp2_with fail
  refine Calls.mono HPU.out ?_
  rintro e w1 ⟨vn, rfl, hown, hb1⟩
  rw [List.nil_append] at hown
  have hbl := be_len n 4
  rcases hown.shape with ⟨_, e⟩ | ⟨gn, cn, rfl, -, -, -, -, -⟩
  · rw [e] at hbl; cases hbl
  have hbn := hown.bs
  rw [hbl] at hbn ⊢
  obtain ⟨w2, hw2⟩ : ∃ w2, w2 = w1.alloc (.cells #[.int .u8 116, .int .u8 104, .int .u8 105, .int .u8 109, .int .u8 98, .int .u8 108, .int .u8 101] 5 (7, 8)) := ⟨_, rfl⟩
  obtain ⟨w3, hw3⟩ : ∃ w3, w3 = w2.alloc (.cells #[.int .u8 16] 5) := ⟨_, rfl⟩
  have s2 : w2.heap.size = w1.heap.size + 1 := by rw [hw2]; simp
  have s3 : w3.heap.size = w1.heap.size + 1 + 1 := by rw [hw3]; simp [s2]
  have hcv := Go.Lib.run_convert_bytes_const (P := Tryd.prog) w1 22 5 #[.int .u8 116, .int .u8 104, .int .u8 105, .int .u8 109, .int .u8 98, .int .u8 108, .int .u8 101] 7 7 Tryd.underlying22 Tryd.underlying5
  have k2 : But (fun _ => False) w1 w2 := by rw [hw2]; exact (But.refl _ w1).alloc _
  have k3 : But (fun _ => False) w2 w3 := by rw [hw3]; exact (But.refl _ w2).alloc _
  have f2 : Bs w2 (.slice (some ⟨w1.heap.size, 0, none⟩) 7 7) [116, 104, 105, 109, 98, 108, 101] := by rw [hw2]; exact lit_bs _ _ _ rfl rfl (by decide) (by decide) (by decide) rfl
  have f3 : Bs w3 (.slice (some ⟨w1.heap.size + 1, 0, none⟩) 1 1) [16] := by rw [hw3]; exact lit_bs _ _ _ rfl rfl (by decide) (by decide) (by decide) s2
  have hps := Ps.three (f2.but k3 (fun _ _ _ h => h)) (hbn.but (k2.trans k3) (fun _ _ _ h => h)) f3
  have k4 : But (fun _ => False) w3 (w3.alloc (.cells #[.slice (some ⟨w1.heap.size, 0, none⟩) 7 7, .slice (some ⟨gn, 0, none⟩) 4 cn, .slice (some ⟨w1.heap.size + 1, 0, none⟩) 1 1] 22)) := (But.refl _ w3).alloc _
  have q4 := (((But.of (R := fun _ => False) hb1).trans k2).trans k3).trans k4
  have hof := mof_any (HV.out.but q4 (fun _ _ _ h => h)) hps (HK.out.but q4 (fun h => h)) (HH.out.but q4 (fun h => h)) HL.out (by simp [hbl]) (by simp)
  have HKF : Hid (keyFor key n false = (hmac key [[116, 104, 105, 109, 98, 108, 101], be n 4, [16]].flatten).take 16) := by show _ = _; unfold keyFor; simp
  have HDL := Hid.mk' (hmac_len key [[116, 104, 105, 109, 98, 108, 101], be n 4, [16]].flatten)
  have HDB := Hid.mk' (hmac_lt key [[116, 104, 105, 109, 98, 108, 101], be n 4, [16]].flatten)
  rw [s3, hw3, hw2] at hof
  rw [hw3, hw2] at q4
  have HOF := Hid.mk' hof
  have HQ4 := Hid.mk' q4
  generalize hmac key [[116, 104, 105, 109, 98, 108, 101], be n 4, [16]].flatten = D at *
  clear hof q4 k4 hps f2 f3 k2 k3 s2 s3 hw2 hw3 hbn hown hbl HPU
  go_wp2_with fail
  refine Calls.mono HOF.out ?_
  rintro e w9 ⟨rfl, hb9⟩
  go_wp2_with (refine wpList_store_u8s i32s rfl _ _ rfl w9.heap.size D HDL.out rfl (by exact rfl) (u8s (List.replicate 32 0)) rfl (by rw [HO.out]; exact Blk.new rfl) ?_; intro w5 hb5 hbut5)
  have q5 : But (fun _ => False) w w5 := ((HQ4.out.trans hb9).alloc _).then hbut5 (fun i hi e => by have := (HQ4.out.trans hb9).size; omega)
  have hbs : Bs w5 (.slice (some ⟨w9.heap.size, 0, none⟩) 16 32) (D.take 16) := by
    have hlt : (D.take 16).length = 16 := by rw [List.length_take, HDL.out]; rfl
    have h := Blk.bs (zs := D.take 16) (Y := u8s (D.drop 16)) (cap := 32) (by rw [← u8s_append, List.take_append_drop]; exact hb5) (fun z hz => HDB.out z (List.mem_of_mem_take hz)) (by rw [hlt]; decide) (by rw [hlt]; decide) (by rw [hlt]; decide)
    rw [hlt] at h; exact h
  have hlt : (D.take 16).length = 16 := by rw [List.length_take, HDL.out]; rfl
  refine Calls.mono (clone_any hbs (by rw [hlt]; decide)) ?_
  rintro e wA ⟨v', rfl, hownA, hbA⟩
  have s5 := q5.size
  go_wp2
  go_ret
  refine ⟨v', rfl, ?_, ?_⟩
  · rw [HKF.out]; exact hownA.mono s5
  · exact (q5.trans (But.of hbA)).below (Nat.le_refl _) (fun _ _ h => h)
set_option maxRecDepth 100000 in
set_option maxHeartbeats 4000000 in
theorem mkey_true {w : World} {v : Value} {key : List Nat} (n : Nat) (hv : Bs w v key) (hk : Kw w) (hh : Hw w) (hlen : key.length ≤ 1073741000) (hn : n < 4294967296) :
    Calls Tryd.prog 20 #[v, .int .u32 (n : Int), .bool true] w fun e w' => ∃ v', e = .returned v' ∧ Ow w' w.heap.size v' (keyFor key n true) ∧ Below w.heap.size w w' := by
  have hz2 : ∀ w : World, (zeroValue 27).run Tryd.prog w = .ok (.agg (u8s (List.replicate 32 0)).toArray) w := fun _ => by kernel_rfl
  obtain ⟨O, hO⟩ : ∃ O, O = (u8s (List.replicate 32 0)).toArray := ⟨_, rfl⟩
  rw [← hO] at hz2
  have HO := Hid.mk' hO
  have HPU := Hid.mk' (put_ok (Bs.nil w) (by simp) n 4 (by decide) (by decide) (by rw [show (256 : Nat) ^ 4 = 4294967296 from rfl]; omega))
  have HV := Hid.mk' hv
  have HK := Hid.mk' hk
  have HH := Hid.mk' hh
  obtain ⟨ak, ck, rfl, -, -⟩ := hv.gen
  have HL := Hid.mk' hlen
  clear hO hv hk hh hlen
  go_enter Tryd.func20, Tryd.ntmps20
  go_wp2_with fail
  refine Calls.mono HPU.out ?_
  rintro e w1 ⟨vn, rfl, hown, hb1⟩
  rw [List.nil_append] at hown
  have hbl := be_len n 4
  rcases hown.shape with ⟨_, e⟩ | ⟨gn, cn, rfl, -, -, -, -, -⟩
  · rw [e] at hbl; cases hbl
  have hbn := hown.bs
  rw [hbl] at hbn ⊢
  obtain ⟨w2, hw2⟩ : ∃ w2, w2 = w1.alloc (.cells #[.int .u8 116, .int .u8 104, .int .u8 105, .int .u8 109, .int .u8 98, .int .u8 108, .int .u8 101] 5 (7, 8)) := ⟨_, rfl⟩
  obtain ⟨w3, hw3⟩ : ∃ w3, w3 = w2.alloc (.cells #[.int .u8 32] 5) := ⟨_, rfl⟩
  have s2 : w2.heap.size = w1.heap.size + 1 := by rw [hw2]; simp
  have s3 : w3.heap.size = w1.heap.size + 1 + 1 := by rw [hw3]; simp [s2]
  have hcv := Go.Lib.run_convert_bytes_const (P := Tryd.prog) w1 22 5 #[.int .u8 116, .int .u8 104, .int .u8 105, .int .u8 109, .int .u8 98, .int .u8 108, .int .u8 101] 7 7 Tryd.underlying22 Tryd.underlying5
  have k2 : But (fun _ => False) w1 w2 := by rw [hw2]; exact (But.refl _ w1).alloc _
  have k3 : But (fun _ => False) w2 w3 := by rw [hw3]; exact (But.refl _ w2).alloc _
  have f2 : Bs w2 (.slice (some ⟨w1.heap.size, 0, none⟩) 7 7) [116, 104, 105, 109, 98, 108, 101] := by rw [hw2]; exact lit_bs _ _ _ rfl rfl (by decide) (by decide) (by decide) rfl
  have f3 : Bs w3 (.slice (some ⟨w1.heap.size + 1, 0, none⟩) 1 1) [32] := by rw [hw3]; exact lit_bs _ _ _ rfl rfl (by decide) (by decide) (by decide) s2
  have hps := Ps.three (f2.but k3 (fun _ _ _ h => h)) (hbn.but (k2.trans k3) (fun _ _ _ h => h)) f3
  have k4 : But (fun _ => False) w3 (w3.alloc (.cells #[.slice (some ⟨w1.heap.size, 0, none⟩) 7 7, .slice (some ⟨gn, 0, none⟩) 4 cn, .slice (some ⟨w1.heap.size + 1, 0, none⟩) 1 1] 22)) := (But.refl _ w3).alloc _
  have q4 := (((But.of (R := fun _ => False) hb1).trans k2).trans k3).trans k4
  have hof := mof_any (HV.out.but q4 (fun _ _ _ h => h)) hps (HK.out.but q4 (fun h => h)) (HH.out.but q4 (fun h => h)) HL.out (by simp [hbl]) (by simp)
  have HKF : Hid (keyFor key n true = (hmac key [[116, 104, 105, 109, 98, 108, 101], be n 4, [32]].flatten).take 32) := by show _ = _; unfold keyFor; simp
  have HDL := Hid.mk' (hmac_len key [[116, 104, 105, 109, 98, 108, 101], be n 4, [32]].flatten)
  have HDB := Hid.mk' (hmac_lt key [[116, 104, 105, 109, 98, 108, 101], be n 4, [32]].flatten)
  rw [s3, hw3, hw2] at hof
  rw [hw3, hw2] at q4
  have HOF := Hid.mk' hof
  have HQ4 := Hid.mk' q4
  generalize hmac key [[116, 104, 105, 109, 98, 108, 101], be n 4, [32]].flatten = D at *
  clear hof q4 k4 hps f2 f3 k2 k3 s2 s3 hw2 hw3 hbn hown hbl HPU
  go_wp2_with fail
  refine Calls.mono HOF.out ?_
  rintro e w9 ⟨rfl, hb9⟩
  go_wp2_with (refine wpList_store_u8s i32s rfl _ _ rfl w9.heap.size D HDL.out rfl (by exact rfl) (u8s (List.replicate 32 0)) rfl (by rw [HO.out]; exact Blk.new rfl) ?_; intro w5 hb5 hbut5)
  have q5 : But (fun _ => False) w w5 := ((HQ4.out.trans hb9).alloc _).then hbut5 (fun i hi e => by have := (HQ4.out.trans hb9).size; omega)
  have hbs : Bs w5 (.slice (some ⟨w9.heap.size, 0, none⟩) 32 32) (D.take 32) := by
    have hlt : (D.take 32).length = 32 := by rw [List.length_take, HDL.out]; rfl
    have h := Blk.bs (zs := D.take 32) (Y := u8s (D.drop 32)) (cap := 32) (by rw [← u8s_append, List.take_append_drop]; exact hb5) (fun z hz => HDB.out z (List.mem_of_mem_take hz)) (by rw [hlt]; decide) (by rw [hlt]; decide) (by rw [hlt]; decide)
    rw [hlt] at h; exact h
  have hlt : (D.take 32).length = 32 := by rw [List.length_take, HDL.out]; rfl
  refine Calls.mono (clone_any hbs (by rw [hlt]; decide)) ?_
  rintro e wA ⟨v', rfl, hownA, hbA⟩
  have s5 := q5.size
  go_wp2
  go_ret
  refine ⟨v', rfl, ?_, ?_⟩
  · rw [HKF.out]; exact hownA.mono s5
  · exact (q5.trans (But.of hbA)).below (Nat.le_refl _) (fun _ _ h => h)
theorem mkey_any {w : World} {v : Value} {key : List Nat} (n : Nat) (wide : Bool) (hv : Bs w v key) (hk : Kw w) (hh : Hw w) (hlen : key.length ≤ 1073741000) (hn : n < 4294967296) :
    Calls Tryd.prog 20 #[v, .int .u32 (n : Int), .bool wide] w fun e w' => ∃ v', e = .returned v' ∧ Ow w' w.heap.size v' (keyFor key n wide) ∧ Below w.heap.size w w' := by
  cases wide with
  | false => exact mkey_false n hv hk hh hlen hn
  | true => exact mkey_true n hv hk hh hlen hn
end Go.Proofs.YtkelfjpnjhjmoaaDoor
