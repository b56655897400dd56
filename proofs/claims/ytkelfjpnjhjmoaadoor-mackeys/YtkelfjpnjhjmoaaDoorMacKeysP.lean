/- MacKeys: the reference's Key, and the walk. -/
import Derived.Test.YtkelfjpnjhjmoaaDoorRefMac
import Derived.Test.YtkelfjpnjhjmoaaDoorMacKey
namespace Go.Proofs.YtkelfjpnjhjmoaaDoor
open Go.RowKit

set_option maxRecDepth 100000 in
set_option maxHeartbeats 4000000 in
theorem refKey_false {w : World} {v : Value} {key : List Nat} (n : Nat) (hv : Bs w v key) (hlen : key.length ≤ 1048576) (hn : n < 4294967296) :
    Calls Tryd.prog 21 #[v, .int .u32 (n : Int), .bool false] w fun e w' => ∃ v', e = .returned v' ∧ Ow w' w.heap.size v' (keyFor key n false) ∧ Below w.heap.size w w' := by
  have hz2 : ∀ w : World, (zeroValue 27).run Tryd.prog w = .ok (.agg (u8s (List.replicate 32 0)).toArray) w := fun _ => by kernel_rfl
  obtain ⟨O, hO⟩ : ∃ O, O = (u8s (List.replicate 32 0)).toArray := ⟨_, rfl⟩
  rw [← hO] at hz2
  have HO := Hid.mk' hO
  have b1 : But (fun _ => False) w (w.alloc (.cells #[.int .u8 116, .int .u8 104, .int .u8 105, .int .u8 109, .int .u8 98, .int .u8 108, .int .u8 101, .int .u8 ((n / 16777216 : Nat) : Int), .int .u8 ((n / 65536 % 256 : Nat) : Int), .int .u8 ((n / 256 % 256 : Nat) : Int), .int .u8 ((n % 256 : Nat) : Int), .int .u8 16] 5)) := (But.refl _ w).alloc _
  have hbt : Bs (w.alloc (.cells #[.int .u8 116, .int .u8 104, .int .u8 105, .int .u8 109, .int .u8 98, .int .u8 108, .int .u8 101, .int .u8 ((n / 16777216 : Nat) : Int), .int .u8 ((n / 65536 % 256 : Nat) : Int), .int .u8 ((n / 256 % 256 : Nat) : Int), .int .u8 ((n % 256 : Nat) : Int), .int .u8 16] 5)) (.slice (some ⟨w.heap.size, 0, none⟩) 12 12) ([116, 104, 105, 109, 98, 108, 101] ++ [n / 16777216, n / 65536 % 256, n / 256 % 256, n % 256] ++ [16]) :=
    lit_bs (n := 12) _ _ (0, 0) rfl rfl (by decide) (by decide) (by intro z hz; simp at hz; omega) rfl
  have hbe : be n 4 = [n / 16777216, n / 65536 % 256, n / 256 % 256, n % 256] := by
    simp only [be]
    have e1 : n / 256 ^ 3 % 256 = n / 16777216 := by rw [show (256 : Nat) ^ 3 = 16777216 from rfl]; omega
    have e2 : n / 256 ^ 2 % 256 = n / 65536 % 256 := by rw [show (256 : Nat) ^ 2 = 65536 from rfl]
    have e3 : n / 256 ^ 1 % 256 = n / 256 % 256 := by rw [show (256 : Nat) ^ 1 = 256 from rfl]
    have e4 : n / 256 ^ 0 % 256 = n % 256 := by simp
    rw [e1, e2, e3, e4]
  rw [← hbe] at hbt
  have hof := refMac_any (hv.but b1 (fun _ _ _ h => h)) hbt hlen (by simp [be_len])
  have HKF : Hid (keyFor key n false = (hmac key ([116, 104, 105, 109, 98, 108, 101] ++ be n 4 ++ [16])).take 16) := by show _ = _; unfold keyFor; simp
  have HDL := Hid.mk' (hmac_len key ([116, 104, 105, 109, 98, 108, 101] ++ be n 4 ++ [16]))
  have HDB := Hid.mk' (hmac_lt key ([116, 104, 105, 109, 98, 108, 101] ++ be n 4 ++ [16]))
  generalize hmac key ([116, 104, 105, 109, 98, 108, 101] ++ be n 4 ++ [16]) = D at *
  have e1 : (n : Int) / 16777216 = ((n / 16777216 : Nat) : Int) := by omega
  have e2 : (n : Int) / 65536 % 256 = ((n / 65536 % 256 : Nat) : Int) := by omega
  have e3 : (n : Int) / 256 % 256 = ((n / 256 % 256 : Nat) : Int) := by omega
  have e4 : (n : Int) % 256 = ((n % 256 : Nat) : Int) := by omega
  rw [← e1, ← e2, ← e3, ← e4] at hof b1
  have HOF := Hid.mk' hof
  have HB1 := Hid.mk' b1
  obtain ⟨ak, ck, rfl, -, -⟩ := hv.gen
  clear hO hof b1 hbt hbe hv hlen e1 e2 e3 e4
  go_enter Tryd.func21, Tryd.ntmps21
  go_wp2_with fail
  refine Calls.mono HOF.out ?_
  rintro e w9 ⟨rfl, hb9⟩
  go_wp2_with (refine wpList_store_u8s i32s rfl _ _ rfl w9.heap.size D HDL.out rfl (by exact rfl) (u8s (List.replicate 32 0)) rfl (by rw [HO.out]; exact Blk.new rfl) ?_; intro w5 hb5 hbut5)
  have q5 : But (fun _ => False) w w5 := ((HB1.out.trans hb9).alloc _).then hbut5 (fun i hi e => by have := (HB1.out.trans hb9).size; omega)
  have hlt : (D.take 16).length = 16 := by rw [List.length_take, HDL.out]; rfl
  have hbs : Bs w5 (.slice (some ⟨w9.heap.size, 0, none⟩) 16 32) (D.take 16) := by
    have h := Blk.bs (zs := D.take 16) (Y := u8s (D.drop 16)) (cap := 32) (by rw [← u8s_append, List.take_append_drop]; exact hb5) (fun z hz => HDB.out z (List.mem_of_mem_take hz)) (by rw [hlt]; decide) (by rw [hlt]; decide) (by rw [hlt]; decide)
    rw [hlt] at h; exact h
  refine Calls.mono (copy_any hbs (by rw [hlt]; decide)) ?_
  rintro e wA ⟨v', rfl, hownA, hbA⟩
  have s5 := q5.size
  go_wp2
  go_ret
  refine ⟨v', rfl, ?_, ?_⟩
  · rw [HKF.out]; exact hownA.mono s5
  · exact (q5.trans (But.of hbA)).below (Nat.le_refl _) (fun _ _ h => h)
set_option maxRecDepth 100000 in
set_option maxHeartbeats 4000000 in
theorem refKey_true {w : World} {v : Value} {key : List Nat} (n : Nat) (hv : Bs w v key) (hlen : key.length ≤ 1048576) (hn : n < 4294967296) :
    Calls Tryd.prog 21 #[v, .int .u32 (n : Int), .bool true] w fun e w' => ∃ v', e = .returned v' ∧ Ow w' w.heap.size v' (keyFor key n true) ∧ Below w.heap.size w w' := by
  have hz2 : ∀ w : World, (zeroValue 27).run Tryd.prog w = .ok (.agg (u8s (List.replicate 32 0)).toArray) w := fun _ => by kernel_rfl
  obtain ⟨O, hO⟩ : ∃ O, O = (u8s (List.replicate 32 0)).toArray := ⟨_, rfl⟩
  rw [← hO] at hz2
  have HO := Hid.mk' hO
  have b1 : But (fun _ => False) w (w.alloc (.cells #[.int .u8 116, .int .u8 104, .int .u8 105, .int .u8 109, .int .u8 98, .int .u8 108, .int .u8 101, .int .u8 ((n / 16777216 : Nat) : Int), .int .u8 ((n / 65536 % 256 : Nat) : Int), .int .u8 ((n / 256 % 256 : Nat) : Int), .int .u8 ((n % 256 : Nat) : Int), .int .u8 32] 5)) := (But.refl _ w).alloc _
  have hbt : Bs (w.alloc (.cells #[.int .u8 116, .int .u8 104, .int .u8 105, .int .u8 109, .int .u8 98, .int .u8 108, .int .u8 101, .int .u8 ((n / 16777216 : Nat) : Int), .int .u8 ((n / 65536 % 256 : Nat) : Int), .int .u8 ((n / 256 % 256 : Nat) : Int), .int .u8 ((n % 256 : Nat) : Int), .int .u8 32] 5)) (.slice (some ⟨w.heap.size, 0, none⟩) 12 12) ([116, 104, 105, 109, 98, 108, 101] ++ [n / 16777216, n / 65536 % 256, n / 256 % 256, n % 256] ++ [32]) :=
    lit_bs (n := 12) _ _ (0, 0) rfl rfl (by decide) (by decide) (by intro z hz; simp at hz; omega) rfl
  have hbe : be n 4 = [n / 16777216, n / 65536 % 256, n / 256 % 256, n % 256] := by
    simp only [be]
    have e1 : n / 256 ^ 3 % 256 = n / 16777216 := by rw [show (256 : Nat) ^ 3 = 16777216 from rfl]; omega
    have e2 : n / 256 ^ 2 % 256 = n / 65536 % 256 := by rw [show (256 : Nat) ^ 2 = 65536 from rfl]
    have e3 : n / 256 ^ 1 % 256 = n / 256 % 256 := by rw [show (256 : Nat) ^ 1 = 256 from rfl]
    have e4 : n / 256 ^ 0 % 256 = n % 256 := by simp
    rw [e1, e2, e3, e4]
  rw [← hbe] at hbt
  have hof := refMac_any (hv.but b1 (fun _ _ _ h => h)) hbt hlen (by simp [be_len])
  have HKF : Hid (keyFor key n true = (hmac key ([116, 104, 105, 109, 98, 108, 101] ++ be n 4 ++ [32])).take 32) := by show _ = _; unfold keyFor; simp
  have HDL := Hid.mk' (hmac_len key ([116, 104, 105, 109, 98, 108, 101] ++ be n 4 ++ [32]))
  have HDB := Hid.mk' (hmac_lt key ([116, 104, 105, 109, 98, 108, 101] ++ be n 4 ++ [32]))
  generalize hmac key ([116, 104, 105, 109, 98, 108, 101] ++ be n 4 ++ [32]) = D at *
  have e1 : (n : Int) / 16777216 = ((n / 16777216 : Nat) : Int) := by omega
  have e2 : (n : Int) / 65536 % 256 = ((n / 65536 % 256 : Nat) : Int) := by omega
  have e3 : (n : Int) / 256 % 256 = ((n / 256 % 256 : Nat) : Int) := by omega
  have e4 : (n : Int) % 256 = ((n % 256 : Nat) : Int) := by omega
  rw [← e1, ← e2, ← e3, ← e4] at hof b1
  have HOF := Hid.mk' hof
  have HB1 := Hid.mk' b1
  obtain ⟨ak, ck, rfl, -, -⟩ := hv.gen
  clear hO hof b1 hbt hbe hv hlen e1 e2 e3 e4
  go_enter Tryd.func21, Tryd.ntmps21
  go_wp2_with fail
  refine Calls.mono HOF.out ?_
  rintro e w9 ⟨rfl, hb9⟩
  go_wp2_with (refine wpList_store_u8s i32s rfl _ _ rfl w9.heap.size D HDL.out rfl (by exact rfl) (u8s (List.replicate 32 0)) rfl (by rw [HO.out]; exact Blk.new rfl) ?_; intro w5 hb5 hbut5)
  have q5 : But (fun _ => False) w w5 := ((HB1.out.trans hb9).alloc _).then hbut5 (fun i hi e => by have := (HB1.out.trans hb9).size; omega)
  have hlt : (D.take 32).length = 32 := by rw [List.length_take, HDL.out]; rfl
  have hbs : Bs w5 (.slice (some ⟨w9.heap.size, 0, none⟩) 32 32) (D.take 32) := by
    have h := Blk.bs (zs := D.take 32) (Y := u8s (D.drop 32)) (cap := 32) (by rw [← u8s_append, List.take_append_drop]; exact hb5) (fun z hz => HDB.out z (List.mem_of_mem_take hz)) (by rw [hlt]; decide) (by rw [hlt]; decide) (by rw [hlt]; decide)
    rw [hlt] at h; exact h
  refine Calls.mono (copy_any hbs (by rw [hlt]; decide)) ?_
  rintro e wA ⟨v', rfl, hownA, hbA⟩
  have s5 := q5.size
  go_wp2
  go_ret
  refine ⟨v', rfl, ?_, ?_⟩
  · rw [HKF.out]; exact hownA.mono s5
  · exact (q5.trans (But.of hbA)).below (Nat.le_refl _) (fun _ _ h => h)
theorem refKey_any {w : World} {v : Value} {key : List Nat} (n : Nat) (wide : Bool) (hv : Bs w v key) (hlen : key.length ≤ 1048576) (hn : n < 4294967296) :
    Calls Tryd.prog 21 #[v, .int .u32 (n : Int), .bool wide] w fun e w' => ∃ v', e = .returned v' ∧ Ow w' w.heap.size v' (keyFor key n wide) ∧ Below w.heap.size w w' := by
  cases wide with
  | false => exact refKey_false n hv hlen hn
  | true => exact refKey_true n hv hlen hn
theorem keyFor_len (key : List Nat) (n : Nat) (wide : Bool) : 0 < (keyFor key n wide).length := by
  unfold keyFor; rw [List.length_take, hmac_len]; cases wide <;> decide

set_option maxRecDepth 100000 in
set_option maxHeartbeats 4000000 in
theorem macKeys_walk (v0 : Value) (z0 : List Nat) (a1 : Int) (a2 : Bool) (w : World) (hk : Kw w) (hh : Hw w) (h0 : Bs w v0 z0 ∧ z0.length ≤ 140737488351232) (h1 : (Lit.int .u32 a1).wf = true) :
    Calls Tryd.prog 7 #[v0, .int .u32 a1, .bool a2] w fun e w' => e = .returned (.bool true) ∧ Below w.heap.size w w' := by
  obtain ⟨n, rfl, hn⟩ : ∃ n : Nat, a1 = (n : Int) ∧ n < 4294967296 := by
    have h8 : IntKind.u32.min ≤ a1 ∧ a1 ≤ IntKind.u32.max := by simpa [Lit.wf, go_sem] using h1
    have e1 : IntKind.u32.min = 0 := rfl
    have e2 : IntKind.u32.max = 4294967295 := rfl
    exact ⟨a1.toNat, by omega, by omega⟩
  have HAW : Hid (∀ w2, But (fun _ => False) w w2 → Calls Tryd.prog 9 #[] w2 fun e w' => e = .returned (.bool true) ∧ But (fun _ => False) w2 w') := fun w2 q => awake_any (hk.but q (fun h => h)) (hh.but q (fun h => h))
  have HV0 := Hid.mk' h0.1
  have HL0 := Hid.mk' (lent_any h0.1 (by omega))
  have HK := Hid.mk' hk
  have HH := Hid.mk' hh
  obtain ⟨a0, c0, rfl, -, -⟩ := h0.1.gen
  obtain ⟨m, hm⟩ : ∃ m, m = z0.length := ⟨_, rfl⟩
  rw [← hm] at HV0 HL0 ⊢
  have HM := Hid.mk' hm
  clear hk hh h0 hm h1
  by_cases hbig : 20000 < m
  · have hbi : (20000 : Int) < (m : Int) := by omega
    go_enter Tryd.func7, Tryd.ntmps7
    go_wp2_with fail
    refine Calls.mono (HAW.out _ (But.refl _ _)) ?_
    rintro e w4 ⟨rfl, hb4⟩
    go_wp2
    go_ret
    exact ⟨rfl, hb4.below (Nat.le_refl _) (fun _ _ h => h)⟩
  · have hbi : ¬ (20000 : Int) < (m : Int) := by omega
    go_enter Tryd.func7, Tryd.ntmps7
    go_wp2_with fail
    refine Calls.mono HL0.out ?_
    rintro e w1 ⟨g, rfl, hg, hown, hb1⟩
    have HO1 := Hid.mk' hown
    have q1 : But (fun _ => False) w w1 := But.of hb1
    have hin : ∀ w2, But (fun _ => False) w1 w2 → Bs w2 (.slice (some ⟨g, 0, none⟩) m (m + 3)) z0 := by
      intro w2 q
      have hx := hown.prefix (c' := z0.length + 3) (by omega)
      rw [← HM.out] at hx
      exact hx.but q (fun _ _ _ h => h)
    have HIN := Hid.mk' hin
    have HKY : Hid (∀ w2, But (fun _ => False) w1 w2 → Calls Tryd.prog 20 #[.slice (some ⟨g, 0, none⟩) m (m + 3), .int .u32 (n : Int), .bool a2] w2 fun e w' => ∃ v', e = .returned v' ∧ Ow w' w2.heap.size v' (keyFor z0 n a2) ∧ Below w2.heap.size w2 w') :=
      fun w2 q => mkey_any n a2 (hin w2 q) (HK.out.but (q1.trans q) (fun h => h)) (HH.out.but (q1.trans q) (fun h => h)) (by rw [← HM.out]; omega) hn
    have HRK : Hid (∀ w2, But (fun _ => False) w w2 → Calls Tryd.prog 21 #[.slice a0 m c0, .int .u32 (n : Int), .bool a2] w2 fun e w' => ∃ v', e = .returned v' ∧ Ow w' w2.heap.size v' (keyFor z0 n a2) ∧ Below w2.heap.size w2 w') :=
      fun w2 q => refKey_any n a2 (HV0.out.but q (fun _ _ _ h => h)) (by rw [← HM.out]; omega) hn
    have HFL := Hid.mk' (keyFor_len z0 n a2)
    generalize keyFor z0 n a2 = F at *
    have HQ1 := Hid.mk' q1
    clear hown hb1 q1 hin HL0
    go_wp2_with fail
    refine Calls.mono (HKY.out w1 (But.refl _ _)) ?_
    rintro e w2 ⟨vk, rfl, hok, hb2⟩
    have hok' := hok
    rcases hok.shape with ⟨_, e⟩ | ⟨gk, ck, rfl, hck, hgk, hgkl, hfr, hcell⟩
    · have := HFL.out; rw [e] at this; simp at this
    have hF0 := HFL.out
    have ⟨fl, hfl⟩ : ∃ fl, fl = F.length := ⟨_, rfl⟩
    have HF := Hid.mk' hfl
    rw [← hfl] at hck hcell hok' hF0 ⊢
    have HOK := Hid.mk' hok'
    have q2 : But (fun _ => False) w1 w2 := But.of hb2
    have HQ2 := Hid.mk' q2
    clear hfl hok hok' hb2
    go_wp2_with fail
    refine Calls.mono (HRK.out w2 (HQ1.out.trans HQ2.out)) ?_
    rintro e w3 ⟨vw, rfl, how, hb3⟩
    have q3 : But (fun _ => False) w2 w3 := But.of hb3
    have hkb := (HOK.out.but q3 (fun _ _ _ h => h))
    have HOK3 := Hid.mk' hkb
    have HOW := Hid.mk' how
    have hsm := same_any hkb.bs how.bs
    rw [decide_eq_true rfl] at hsm
    have HSM := Hid.mk' hsm
    have HKP : Hid (∀ d, Calls Tryd.prog 14 #[.slice (some ⟨g, 0, none⟩) m (m + 3), .slice a0 m c0] (w3.drewN d) fun e w' => e = .returned (.bool true) ∧ ∃ d', w' = (w3.drewN d).drewN d') := fun d => by
      have qq := ((HQ2.out.trans q3).drewN (n := d))
      have h := kept_true (HV0.out.but (HQ1.out.trans qq) (fun _ _ _ h => h)) (by rw [← HM.out]; exact HO1.out.but qq (fun _ _ _ h => h))
      rw [← HM.out] at h
      exact h
    obtain ⟨x, hx⟩ : ∃ x, x = F.getD 0 0 := ⟨_, rfl⟩
    have hc0 := hcell 0 hF0
    rw [← hx] at hc0
    have hx1 : x < 256 := by rw [hx]; exact HOK.out.lt _ (getD_mem F 0 (by rw [← HF.out]; exact hF0))
    have hc03 : w3.cell? ⟨gk, 0, none⟩ = some (.int .u8 (x : Nat)) := (World.cell?_of_block (q3.block gk hgkl (fun h => h))).trans hc0
    have hf03 : w3.frozen? ⟨gk, 0, none⟩ = false := by
      have h := hkb.shape
      rcases h with ⟨e, _⟩ | ⟨g', c', e, _, _, _, hfr', _⟩
      · cases e
      · simp only [Value.slice.injEq, Option.some.injEq, Addr.mk.injEq] at e
        obtain ⟨⟨rfl, _⟩, _⟩ := e
        exact hfr' 0
    have HQ3 := Hid.mk' (HQ2.out.trans q3)
    have s3 : gk < w3.heap.size := Nat.lt_of_lt_of_le hgkl q3.size
    have hgw : ∀ k, vw.ownBlock = some k → w2.heap.size ≤ k := fun k e => (how.ge k e).1
    have HGW := Hid.mk' hgw
    obtain ⟨aw, cw, rfl, -, -⟩ := how.bs.gen
    rw [← HF.out] at HSM HOW ⊢
    clear hkb how hsm hb3 hcell hc0 hfr q3 hx hgw
    go_wp2_with fail
    refine Calls.mono HSM.out ?_
    rintro e w4 ⟨rfl, d4, rfl⟩
    go_wp2_with fail
    refine Calls.mono (HKP.out _) ?_
    rintro e w4 ⟨rfl, d5, rfl⟩
    go_wp2_with fail
    have qW : But (fun _ => False) w1 ((w3.drewN (d4 + d5)).setCell ⟨gk, 0, none⟩ (.int .u8 (((x : Int) + 1) % 256))) := HQ3.out.drewN.setCell (fun h => by have h' : gk < w1.heap.size := h; omega) _
    have hbw : Bs ((w3.drewN (d4 + d5)).setCell ⟨gk, 0, none⟩ (.int .u8 (((x : Int) + 1) % 256))) (.slice aw fl cw) F :=
      HOW.out.bs.but (show But (· = gk) w3 _ from (But.refl (· = gk) w3).drewN.setCell (fun _ => rfl) _) (fun j e hj h => by have h2 := HGW.out j (by rw [← HF.out]; exact e); have h' : j = gk := h; omega)
    generalize (w3.drewN (d4 + d5)).setCell ⟨gk, 0, none⟩ (.int .u8 (((x : Int) + 1) % 256)) = W at *
    refine Calls.mono (HKY.out W qW) ?_
    rintro e wA ⟨vA, rfl, hoA, hbA⟩
    have hsA := same_any hoA.bs (hbw.but (But.of (R := fun _ => False) hbA) (fun _ _ _ h => h))
    rw [decide_eq_true rfl] at hsA
    have HSA := Hid.mk' hsA
    have HQA : Hid (But (fun _ => False) w wA) := (HQ1.out.trans qW).trans (But.of hbA)
    obtain ⟨aA, cA, rfl, -, -⟩ := hoA.bs.gen
    clear hsA hoA hbA hbw qW hc03 hf03
    go_wp2_with fail
    refine Calls.mono HSA.out ?_
    rintro e wB ⟨rfl, dB, rfl⟩
    go_wp2_with fail
    refine Calls.mono (HAW.out _ HQA.out.drewN) ?_
    rintro e wC ⟨rfl, hbC⟩
    go_wp2
    go_ret
    exact ⟨rfl, (HQA.out.drewN.trans hbC).below (Nat.le_refl _) (fun _ _ h => h)⟩
end Go.Proofs.YtkelfjpnjhjmoaaDoor
