/- The reference's digests under a key. -/
import Derived.Test.YtkelfjpnjhjmoaaDoorMacTurnedP
import Derived.Test.YtkelfjpnjhjmoaaDoorShaRefOf
import Derived.Test.YtkelfjpnjhjmoaaDoorRefJoin
namespace Go.Proofs.YtkelfjpnjhjmoaaDoor
open Go.RowKit

set_option maxRecDepth 100000 in
set_option maxHeartbeats 1000000 in
theorem refWith_any {w : World} {v : Value} {b : List Nat} {x : Nat} (hv : Bs w v b) (hx : x < 256) (hl : b.length ≤ 1048576) :
    Calls Tryd.prog 25 #[v, .int .u8 (x : Int)] w fun e w' => ∃ v', e = .returned v' ∧ Ow w' w.heap.size v' (maskBy x b) ∧ Below w.heap.size w w' := by
  obtain ⟨i0, hi, hz0, hz1, hz2⟩ := info_parts u8info
  have HV := Hid.mk' hv
  obtain ⟨a0, c0, rfl, -, -⟩ := hv.gen
  obtain ⟨n, hn⟩ : ∃ n, n = b.length := ⟨_, rfl⟩
  rw [← hn] at HV hl ⊢
  have HN := Hid.mk' hn
  clear hv hn
  go_enter Tryd.func25, Tryd.ntmps25
  go_wp2
  go_loopw [5, 6] (fun s i wr => ∃ k : Nat, k ≤ n ∧ i = .int .i64 k ∧ Ow wr w.heap.size s (maskBy x (b.take k)) ∧ Below w.heap.size w wr) (fun _ i _ => n - (intOf i).toNat)
  case atStart => exact ⟨0, Nat.zero_le _, rfl, by simp only [List.take_zero]; exact Ow.nil _ _, Below.refl _ _⟩
  case round =>
    obtain ⟨k, hkn, rfl, ho, hbel⟩ := hrel
    have hsz := hbel.size
    by_cases hlt : k < n
    · have hlti : (k : Int) < (n : Int) := by omega
      obtain ⟨y, hy⟩ : ∃ y, y = b.getD k 0 := ⟨_, rfl⟩
      have hkl : k < b.length := by rw [← HN.out]; exact hlt
      have hy1 : y < 256 := by rw [hy]; exact HV.out.1 _ (getD_mem b k hkl)
      obtain ⟨-, -, ⟨e, -⟩ | ⟨-, bb, off, cc, e, -, hbl, hcell⟩⟩ := HV.out
      · rw [e] at hkl; simp at hkl
      simp only [Value.slice.injEq] at e
      obtain ⟨rfl, -, rfl⟩ := e
      have f : wr.cell? ⟨bb, off + k, none⟩ = some (.int .u8 (y : Nat)) := by rw [hy]; exact (hbel.cell (by exact hbl)).trans (hcell k hkl)
      have hxy : bits .xor .u8 (y : Int) (x : Int) = ((y ^^^ x : Nat) : Int) := u8_xor_nat y x hy1 hx
      have hz1' : y ^^^ x < 256 := xor_byte y x hy1 hx
      have HT : Hid (maskBy x (b.take (k + 1)) = maskBy x (b.take k) ++ [y ^^^ x]) := by
        show _ = _; rw [take_next' b k hkl, ← hy]; simp [maskBy]
      generalize y ^^^ x = z at *
      have hlen : (maskBy x (b.take k)).length = k := by rw [maskBy_len, List.length_take]; omega
      obtain ⟨v', w', hr, hown, hgr⟩ := append_bytes 22 (ho.alloc (.cells #[.int .u8 (z : Int)] 5)) (lit_bs (n := 1) [z] _ (0, 0) rfl rfl (by decide) (by decide) (by simpa using hz1') rfl) (by rw [hlen]; simp; omega) (by simp; omega)
      rw [← HT.out] at hown
      have HR := Hid.mk' hr
      have HOW := Hid.mk' hown
      have HB : Hid (Below w.heap.size w w') := (hbel.alloc hsz _).grown hgr (by simp; omega) (fun j hj => (ho.ge j hj).1)
      clear hcell hy hr hown hgr hbel ho HT hlen
      go_wp2_with (at_builtin; refine wpList_append_seen rfl _ _ 22 rfl _ _ rfl rfl HR.out ?_)
      refine ⟨⟨k + 1, by omega, by go_num, HOW.out, HB.out⟩, by simp [intOf]; omega⟩
    · have hge : ¬ ((k : Int) < (n : Int)) := by omega
      rw [List.take_of_length_le (by rw [← HN.out]; omega)] at ho
      go_wp2
      go_ret
      exact ⟨_, rfl, ho, hbel⟩

set_option maxRecDepth 100000 in
set_option maxHeartbeats 1000000 in
theorem refBlock_any {w : World} {v : Value} {key : List Nat} (hv : Bs w v key) (hl : key.length ≤ 1048576) :
    Calls Tryd.prog 26 #[v] w fun e w' => ∃ v', e = .returned v' ∧ Ow w' w.heap.size v' (keyBlock key) ∧ Below w.heap.size w w' := by
  have hz2 : ∀ w : World, (zeroValue 27).run Tryd.prog w = .ok (.agg (u8s (List.replicate 32 0)).toArray) w := fun _ => by kernel_rfl
  obtain ⟨O, hO⟩ : ∃ O, O = (u8s (List.replicate 32 0)).toArray := ⟨_, rfl⟩
  rw [← hO] at hz2
  have HO := Hid.mk' hO
  have HCO := Hid.mk' (copy_any hv (by omega))
  have HKB : Hid (keyBlock key = keyOf key ++ List.replicate (64 - (keyOf key).length) 0) := rfl
  have HKL := Hid.mk' (keyOf_len key)
  have HKP : Hid (64 < key.length → keyOf key = digest key) := fun h => by unfold keyOf; rw [if_pos h]
  have HKN : Hid (¬ 64 < key.length → keyOf key = key) := fun h => by unfold keyOf; rw [if_neg h]
  clear hO hv
  go_enter Tryd.func26, Tryd.ntmps26
  go_wp2_with fail
  refine Calls.mono HCO.out ?_
  rintro e w1 ⟨v1, rfl, hown, hb1⟩
  have hb := hown.bs
  obtain ⟨a1, c1, rfl, -, -⟩ := hb.gen
  by_cases h64 : 64 < key.length
  case' neg =>
    have h64i : ¬ (64 : Int) < (key.length : Int) := by omega
    obtain ⟨az, hazd⟩ : ∃ az, az = a1 := ⟨_, rfl⟩
    obtain ⟨cz, hczd⟩ : ∃ cz, cz = c1 := ⟨_, rfl⟩
    obtain ⟨wz, hwzd⟩ : ∃ wz, wz = w1 := ⟨_, rfl⟩
    subst hazd hczd hwzd
    have HOz : Hid (Ow wz w.heap.size (.slice az (keyOf key).length cz) (keyOf key)) := by rw [HKN.out h64]; exact hown
    have HBz := Hid.mk' hb1
    rw [← HKN.out h64]
    rw [← HKN.out h64] at h64i
    clear hb hown hb1
    go_wp2
  case' pos =>
    have h64i : (64 : Int) < (key.length : Int) := by omega
    have HRF := Hid.mk' (refOf_any hb hl)
    have HDL := Hid.mk' (digest_len' key)
    have HDB := Hid.mk' (digest_lt key)
    have HKE := Hid.mk' (HKP.out h64)
    have HB1 := Hid.mk' hb1
    generalize digest key = D at *
    clear hb hown hb1
    go_wp2_with fail
    refine Calls.mono HRF.out ?_
    rintro e w2 ⟨rfl, hb2⟩
    go_wp2_with (refine wpList_store_u8s i32s rfl _ _ rfl w2.heap.size D HDL.out rfl (by exact rfl) (u8s (List.replicate 32 0)) rfl (by rw [HO.out]; exact Blk.new rfl) ?_; intro w5 hb5 hbut5)
    have q5 : But (fun _ => False) w w5 := (((But.of HB1.out).trans hb2).alloc _).then hbut5 (fun i hi e => by have := ((But.of (R := fun _ => False) HB1.out).trans hb2).size; omega)
    have hbs : Bs w5 (.slice (some ⟨w2.heap.size, 0, none⟩) 32 32) D := by
      have h := Blk.bs (Y := []) (cap := 32) (by simpa using hb5) HDB.out (by rw [HDL.out]; decide) (by rw [HDL.out]; decide) (by rw [HDL.out]; decide)
      rw [HDL.out] at h; exact h
    have s5 := q5.size
    refine Calls.mono (copy_any hbs (by rw [HDL.out]; decide)) ?_
    rintro e wz ⟨vz, rfl, hownz, hbz⟩
    have HOz' := hownz.mono s5
    rw [← HKE.out] at HOz'
    obtain ⟨az, cz, rfl, -, -⟩ := HOz'.bs.gen
    have HOz := Hid.mk' HOz'
    have HBz : Hid (Below w.heap.size w wz) := (q5.trans (But.of hbz)).below (Nat.le_refl _) (fun _ _ h => h)
    clear hownz hbz HOz' hbs hb5 hbut5 q5 s5 hb2 HRF HKE HDL HDB
    go_wp2
  all_goals
    obtain ⟨kl, hkl⟩ : ∃ kl, kl = (keyOf key).length := ⟨_, rfl⟩
    have HKK := Hid.mk' hkl
    generalize keyOf key = K at *
    rw [← hkl] at HKL HOz HKB ⊢
    clear hkl
    go_loopw [3] (fun s wr => ∃ j : Nat, kl + j ≤ 64 ∧ Ow wr w.heap.size s (K ++ List.replicate j 0) ∧ Below w.heap.size w wr) (fun s _ => match s with | .slice _ m _ => 64 - m | _ => 0)
    case atStart => exact ⟨0, HKL.out, by simpa using HOz.out, HBz.out⟩
    case round =>
      obtain ⟨j, hj, ho, hbel⟩ := hrel
      have hsz := hbel.size
      have hlen : (K ++ List.replicate j 0).length = kl + j := by rw [List.length_append, List.length_replicate, HKK.out]
      obtain ⟨al, cl, rfl, -, -⟩ := ho.bs.gen
      rw [hlen] at ho ⊢
      by_cases hgo : kl + j < 64
      · have hg2 : ((kl + j : Nat) : Int) < 64 := by omega
        obtain ⟨v', w', hr, hown, hgr⟩ := append_bytes 22 (ho.alloc (.cells #[.int .u8 ((0 : Nat) : Int)] 5)) (lit_bs [0] _ (0, 0) rfl rfl (by decide) (by decide) (by decide) rfl) (by rw [hlen]; simp; omega) (by simp; omega)
        rw [List.append_assoc, ← List.replicate_succ'] at hown
        have HR := Hid.mk' hr
        have HOW := Hid.mk' hown
        have HB : Hid (Below w.heap.size w w') := (hbel.alloc hsz _).grown hgr (by simp; omega) (fun j hj => (ho.ge j hj).1)
        clear hr hown hgr hbel ho hlen
        obtain ⟨q, hq⟩ : ∃ q, q = kl + j := ⟨_, rfl⟩
        have HQ := Hid.mk' hq
        rw [← hq] at HR hg2 ⊢
        clear hq
        go_wp2_with (at_builtin; refine wpList_append_seen rfl _ _ 22 rfl _ _ rfl rfl HR.out ?_)
        refine ⟨⟨j + 1, by have := HQ.out; omega, HOW.out, HB.out⟩, ?_⟩
        obtain ⟨ax, cx, e, -, -⟩ := HOW.out.bs.gen
        rw [e]
        have hl2 : (K ++ List.replicate (j + 1) 0).length = kl + (j + 1) := by rw [List.length_append, List.length_replicate, HKK.out]
        have := HQ.out
        simp only [hl2]
        omega
      · have hg2 : ¬ ((kl + j : Nat) : Int) < 64 := by omega
        have hfin : K ++ List.replicate j 0 = keyBlock key := by rw [HKB.out, show j = 64 - kl by omega]
        rw [hfin] at ho
        go_wp2
        go_ret
        exact ⟨_, rfl, ho, hbel⟩

theorem op_append_seen {w w' : World} {o : Oper} {a : Act} {K : Act → World → Prop} {Q : Exit → Act → World → Prop} (s x : Operand) (t : TypeId)
    (ho : o.op = .call { callee := .builtin .append, args := #[s, x], argTypes := #[t, t] }) (vs vx : Value) (hs : a.eval s = vs) (hx : a.eval x = vx) {v' : Value}
    (hr : (Builtin.append_ #[t, t] o.type #[vs, vx]).run Tryd.prog w = .ok v' w') (h : K (a.put o.dst v') w') : o.wp Tryd.prog a w K Q := by
  refine op_value v' ?_ h
  unfold execOp
  simp only [ho, resolve, invoke, builtin, Sem.run_bind, Sem.run_pure, Result.andThen_ok, List.map_toArray, List.map_cons, List.map_nil, hs, hx, hr]
theorem op_move {P : Program} {w : World} {o : Oper} {a : Act} {K : Act → World → Prop} {Q : Exit → Act → World → Prop} (x : Operand) (v : Value) (ho : o.op = .move x) (hx : a.eval x = v) (h : K (a.put o.dst v) w) : o.wp P a w K Q := by
  refine op_value v ?_ h
  unfold execOp
  simp only [ho, hx]
  rfl
theorem callable26 (args : Array Value) (w : World) : (callFunc 26 args).run Tryd.prog w = .ok (.enter 26 args) w := by kernel_rfl
theorem callable25 (args : Array Value) (w : World) : (callFunc 25 args).run Tryd.prog w = .ok (.enter 25 args) w := by kernel_rfl
theorem callable24 (args : Array Value) (w : World) : (callFunc 24 args).run Tryd.prog w = .ok (.enter 24 args) w := by kernel_rfl

set_option maxRecDepth 100000 in
set_option maxHeartbeats 1000000 in
theorem refMac_any {w : World} {v u : Value} {key text : List Nat} (hv : Bs w v key) (hu : Bs w u text) (hl : key.length ≤ 1048576) (ht : text.length ≤ 1000000) :
    Calls Tryd.prog 12 #[v, u] w fun e w' => e = .returned (.agg (u8s (hmac key text)).toArray) ∧ But (fun _ => False) w w' := by
  have hz2 : ∀ w : World, (zeroValue 27).run Tryd.prog w = .ok (.agg (u8s (List.replicate 32 0)).toArray) w := fun _ => by kernel_rfl
  obtain ⟨O, hO⟩ : ∃ O, O = (u8s (List.replicate 32 0)).toArray := ⟨_, rfl⟩
  rw [← hO] at hz2
  have HO := Hid.mk' hO
  have b1 : But (fun _ => False) w (w.alloc (.cells O 27)) := (But.refl _ w).alloc _
  have HR1 : Hid (Blk (w.alloc (.cells O 27)) w.heap.size 27 (u8s (List.replicate 32 0))) := by rw [hO]; exact Blk.new rfl
  have HV := Hid.mk' hv
  have HU := Hid.mk' hu
  have HBK : Hid (∀ wx, But (fun _ => False) w wx → Calls Tryd.prog 26 #[v] wx fun e w' => ∃ v', e = .returned v' ∧ Ow w' wx.heap.size v' (keyBlock key) ∧ Below wx.heap.size wx w') := fun wx q => refBlock_any (hv.but q (fun _ _ _ h => h)) hl
  have HHM : Hid (hmac key text = digest (maskBy 92 (keyBlock key) ++ digest (maskBy 54 (keyBlock key) ++ text))) := rfl
  have HBL := Hid.mk' (keyBlock_len key)
  have HB1 := Hid.mk' b1
  have HTL := Hid.mk' ht
  generalize keyBlock key = KB at *
  clear hv hu hl b1 hO ht
  go_enter Tryd.func12, Tryd.ntmps12
  go_wp2_with fail
  refine Calls.mono (HBK.out _ HB1.out) ?_
  rintro e w2 ⟨vb, rfl, hob, hb2⟩
  have HQ2 : Hid (But (fun _ => False) w w2) := HB1.out.trans (But.of hb2)
  have HR2 := Hid.mk' (HR1.out.but (But.of (R := fun _ => False) hb2) (fun h => h))
  have HW2 := Hid.mk' (refWith_any (x := 54) hob.bs (by decide) (by rw [HBL.out]; decide))
  clear hob hb2
  go_wp2_with fail
  refine Calls.mono HW2.out ?_
  rintro e w3 ⟨vm, rfl, hom, hb3⟩
  have HQ3 : Hid (But (fun _ => False) w w3) := HQ2.out.trans (But.of hb3)
  have HR3 := Hid.mk' (HR2.out.but (But.of (R := fun _ => False) hb3) (fun h => h))
  have hml : (maskBy 54 KB).length = 64 := by rw [maskBy_len, HBL.out]
  have s2 := HQ2.out.size
  have s3 := HQ3.out.size
  have sr2 := HR2.out.lt
  have hlx := HTL.out
  obtain ⟨va, w4, hr4, ho4, hg4⟩ := append_bytes 22 hom (HU.out.but HQ3.out (fun _ _ _ h => h)) (by rw [hml]; omega) hb3.size
  have q34 : But (fun _ => False) w2 w4 := (But.of hb3).grown hg4 (fun k e hk => by have := (hom.ge k e).1; omega)
  have HQ4 : Hid (But (fun _ => False) w w4) := HQ2.out.trans q34
  have HR4 := Hid.mk' (HR2.out.but q34 (fun h => h))
  have HRF := Hid.mk' (refOf_any ho4.bs (by rw [List.length_append, hml]; omega))
  have HA4 := Hid.mk' hr4
  have HDL := Hid.mk' (digest_len' (maskBy 54 KB ++ text))
  have HDB := Hid.mk' (digest_lt (maskBy 54 KB ++ text))
  generalize digest (maskBy 54 KB ++ text) = D at *
  clear hom hb3 hr4 ho4 hg4 q34 hml s2 s3 sr2 hlx HR1 HR2 HR3 HW2
  go_wp2_with (first
    | (at_builtin; refine wpList_append_seen rfl _ _ 22 rfl _ _ rfl rfl HA4.out ?_)
    | (go_at_call 24; refine Calls.mono HRF.out ?_; rintro e w5 ⟨rfl, hb5⟩)
    | (refine wpList_store_u8s i32s rfl _ _ rfl w5.heap.size D HDL.out rfl (by exact rfl) (u8s (List.replicate 32 0)) rfl (by rw [HO.out]; exact Blk.new rfl) ?_; intro w7 hb7 hbut7))
  have q7 : But (fun _ => False) w5 w7 := ((But.refl _ w5).alloc _).then hbut7 (fun i hi e => by omega)
  have HR7 := Hid.mk' ((HR4.out.but hb5 (fun h => h)).but q7 (fun h => h))
  have HQ7 : Hid (But (fun _ => False) w w7) := (HQ4.out.trans hb5).trans q7
  have HD7 := Hid.mk' hb7
  obtain ⟨g5, hg5⟩ : ∃ g5, g5 = w5.heap.size := ⟨_, rfl⟩
  rw [← hg5] at HD7 ⊢
  clear hg5 hb7 hbut7 q7 hb5 HRF HA4 HR4
  have hs32 : ∀ w : World, (Instr.sliceAt 27 (.pointer (some ⟨g5, 0, none⟩)) none none none).run Tryd.prog w = .ok (.slice (some ⟨g5, 0, none⟩) 32 32) w := fun _ => by kernel_rfl
  have hbsD : Bs w7 (.slice (some ⟨g5, 0, none⟩) 32 32) D := by
    have h := Blk.bs (Y := []) (cap := 32) (by simpa using HD7.out) HDB.out (by rw [HDL.out]; decide) (by rw [HDL.out]; decide) (by rw [HDL.out]; decide)
    rw [HDL.out] at h; exact h
  have hml : (maskBy 92 KB).length = 64 := by rw [maskBy_len, HBL.out]
  simp only [Act.put]
  refine region_inv (by kernel_rfl) (by kernel_rfl) (by kernel_rfl) (fun l a wx => ∃ (l0 l1 l2 l3 l4 l5 l6 : Bool) (y12 y13 y14 y15 y16 y17 : Value), l = [l0, l1, l2, l3, l4, l5, l6] ∧
    a = ⟨#[v, u, undef, undef, .pointer (some ⟨w.heap.size, 0, none⟩), .pointer (some ⟨g5, 0, none⟩), v, vb, vm, u, va, .agg (u8s D).toArray, y12, y13, y14, y15, y16, y17], []⟩ ∧
    (l0 = true → y12 = v) ∧ (l1 = true → l2 = false → Ow wx w7.heap.size y13 KB) ∧ (l2 = true → l4 = false → Ow wx w7.heap.size y14 (maskBy 92 KB)) ∧ (l3 = true → y15 = .slice (some ⟨g5, 0, none⟩) 32 32) ∧
    (l4 = true → l5 = false → Bs wx y16 (maskBy 92 KB ++ D)) ∧ (l5 = true → y17 = .agg (u8s (digest (maskBy 92 KB ++ D))).toArray) ∧
    (l6 = false → But (fun _ => False) w7 wx) ∧ (l6 = true → Blk wx w.heap.size 27 (u8s (digest (maskBy 92 KB ++ D)))) ∧ But (fun _ => False) w wx ∧ (l2 = true → l1 = true) ∧ (l4 = true → l2 = true) ∧ (l5 = true → l4 = true) ∧ (l6 = true → l5 = true)) ?_ ?_ ?_
  · exact ⟨false, false, false, false, false, false, false, undef, undef, undef, undef, undef, undef, rfl, rfl, nofun, nofun, nofun, nofun, nofun, nofun, fun _ => (But.refl _ _).drew, nofun, HQ7.out.drew, nofun, nofun, nofun, nofun⟩
  · rintro l a wx i o ⟨l0, l1, l2, l3, l4, l5, l6, y12, y13, y14, y15, y16, y17, rfl, rfl, h0, h1, h2, h3, h4, h5, h6, h7, hq, i2, i4, i5, i6⟩ hf hd hi ho
    match i, hi with
    | 0, _ =>
      obtain rfl := Option.some.inj ho
      refine op_move _ _ rfl rfl ?_
      exact ⟨true, l1, l2, l3, l4, l5, l6, _, y13, y14, y15, y16, y17, rfl, rfl, fun _ => rfl, h1, h2, h3, h4, h5, h6, h7, hq, i2, i4, i5, i6⟩
    | 1, _ =>
      obtain rfl := Option.some.inj ho
      obtain rfl : l0 = true := by simpa [Region.binds] using hd
      obtain rfl : l1 = false := by simpa using hf
      obtain rfl := h0 rfl
      obtain rfl : l2 = false := by cases l2; rfl; exact absurd (i2 rfl) (by simp)
      obtain rfl : l4 = false := by cases l4; rfl; exact absurd (i4 rfl) (by simp)
      obtain rfl : l5 = false := by cases l5; rfl; exact absurd (i5 rfl) (by simp)
      obtain rfl : l6 = false := by cases l6; rfl; exact absurd (i6 rfl) (by simp)
      refine op_call 26 [_] _ #[y12] rfl rfl (callable26 _ _) ((HBK.out wx hq).mono ?_)
      rintro e w9 ⟨v9, rfl, ho9, hb9⟩
      have k := But.of (R := fun _ => False) hb9
      exact ⟨_, rfl, true, true, false, l3, false, false, false, _, v9, y14, y15, y16, y17, rfl, rfl, h0, fun _ _ => ho9.mono (h6 rfl).size, nofun, h3, nofun, nofun, fun _ => (h6 rfl).trans k, nofun, hq.trans k, nofun, nofun, nofun, nofun⟩
    | 2, _ =>
      obtain rfl := Option.some.inj ho
      obtain rfl : l1 = true := by
        simp [Region.binds] at hd
        exact hd
      obtain rfl : l2 = false := by simpa using hf
      obtain rfl : l4 = false := by cases l4; rfl; exact absurd (i4 rfl) (by simp)
      obtain rfl : l5 = false := by cases l5; rfl; exact absurd (i5 rfl) (by simp)
      obtain rfl : l6 = false := by cases l6; rfl; exact absurd (i6 rfl) (by simp)
      refine op_call 25 [_, _] _ #[y13, .int .u8 ((92 : Nat) : Int)] rfl rfl (callable25 _ _) ((refWith_any (x := 92) (h1 rfl rfl).bs (by decide) (by rw [HBL.out]; decide)).mono ?_)
      rintro e w9 ⟨v9, rfl, ho9, hb9⟩
      have k := But.of (R := fun _ => False) hb9
      exact ⟨_, rfl, l0, true, true, l3, false, false, false, y12, y13, v9, y15, y16, y17, rfl, rfl, h0, nofun, fun _ _ => ho9.mono (h6 rfl).size, h3, nofun, nofun, fun _ => (h6 rfl).trans k, nofun, hq.trans k, fun _ => rfl, nofun, nofun, nofun⟩
    | 3, _ =>
      obtain rfl := Option.some.inj ho
      refine op_slice 27 _ _ _ rfl rfl (hs32 _) ?_
      exact ⟨l0, l1, l2, true, l4, l5, l6, y12, y13, y14, _, y16, y17, rfl, rfl, h0, h1, h2, fun _ => rfl, h4, h5, h6, h7, hq, i2, i4, i5, i6⟩
    | 4, _ =>
      obtain rfl := Option.some.inj ho
      obtain ⟨rfl, rfl⟩ : l2 = true ∧ l3 = true := by
        simp [Region.binds] at hd
        exact ⟨hd.1, hd.2.1⟩
      obtain rfl : l4 = false := by simpa using hf
      obtain rfl : l5 = false := by cases l5; rfl; exact absurd (i5 rfl) (by simp)
      obtain rfl : l6 = false := by cases l6; rfl; exact absurd (i6 rfl) (by simp)
      obtain rfl := h3 rfl
      obtain ⟨v9, w9, hr9, ho9, hg9⟩ := append_bytes 22 (h2 rfl rfl) (hbsD.but (h6 rfl) (fun _ _ _ h => h)) (by rw [hml, HDL.out]; decide) (h6 rfl).size
      refine op_append_seen _ _ 22 rfl _ _ rfl rfl hr9 ?_
      have hge := fun k e => ((h2 rfl rfl).ge k e).1
      have k7 : But (fun _ => False) w7 w9 := (h6 rfl).grown hg9 (fun k e hk => by have := hge k e; omega)
      have kw : But (fun _ => False) w w9 := hq.grown hg9 (fun k e hk => by have := hge k e; have := HQ7.out.size; omega)
      exact ⟨l0, l1, true, true, true, false, false, y12, y13, y14, _, v9, y17, rfl, rfl, h0, fun _ h => (Bool.noConfusion h), nofun, h3, fun _ _ => ho9.bs, nofun, fun _ => k7, nofun, kw, i2, fun _ => rfl, nofun, nofun⟩
    | 5, _ =>
      obtain rfl := Option.some.inj ho
      obtain rfl : l4 = true := by
        simp [Region.binds] at hd
        first | exact hd | exact hd.1
      obtain rfl : l5 = false := by simpa using hf
      obtain rfl : l6 = false := by cases l6; rfl; exact absurd (i6 rfl) (by simp)
      refine op_call 24 [_] _ #[y16] rfl rfl (callable24 _ _) ((refOf_any (h4 rfl rfl) (by rw [List.length_append, hml, HDL.out]; decide)).mono ?_)
      rintro e w9 ⟨rfl, k⟩
      obtain rfl := i4 rfl
      exact ⟨_, rfl, l0, l1, true, l3, true, true, false, y12, y13, y14, y15, y16, _, rfl, rfl, h0, fun _ h => (Bool.noConfusion h), fun _ h => (Bool.noConfusion h), h3, fun _ h => (Bool.noConfusion h), fun _ => rfl, fun _ => (h6 rfl).trans k, nofun, hq.trans k, i2, i4, fun _ => rfl, nofun⟩
    | 6, _ =>
      obtain rfl := Option.some.inj ho
      obtain rfl : l5 = true := by
        simp [Region.binds] at hd
        first | exact hd | exact hd.1
      obtain rfl : l6 = false := by simpa using hf
      obtain rfl := h5 rfl
      refine op_store_u8s i32s _ _ rfl w.heap.size (digest (maskBy 92 KB ++ D)) (digest_len' _) rfl rfl _ (by simp [u8s]) (HR7.out.but (h6 rfl) (fun h => h)) ?_
      intro w9 hb9 hbut9
      obtain rfl := i5 rfl
      obtain rfl := i4 rfl
      exact ⟨l0, l1, true, l3, true, true, true, y12, y13, y14, y15, y16, _, rfl, rfl, h0, fun _ h => (Bool.noConfusion h), fun _ h => (Bool.noConfusion h), h3, fun _ h => (Bool.noConfusion h), h5, nofun, fun _ => hb9, hq.then hbut9 (fun i hi e => by omega), i2, i4, i5, fun _ => rfl⟩
    | n + 7, h => exact absurd h (by simp)
  · rintro a wx ⟨l0, l1, l2, l3, l4, l5, l6, y12, y13, y14, y15, y16, y17, hl, rfl, h0, h1, h2, h3, h4, h5, h6, h7, hq, i2, i4, i5, i6⟩
    obtain ⟨rfl, rfl, rfl, rfl, rfl, rfl, rfl⟩ : l0 = true ∧ l1 = true ∧ l2 = true ∧ l3 = true ∧ l4 = true ∧ l5 = true ∧ l6 = true := by
      simpa [List.replicate, eq_comm] using hl
    have hb9 := h7 rfl
    clear h0 h1 h2 h3 h4 h5 h6 h7 i2 i4 i5 i6 hl
    go_wp2
    refine bodyPost_ret (results_cell_row rfl _ _ w.heap.size _ _ _ _ rfl hb9 Tryd.underlying27 rfl (by rw [i32s]; simp [u8s, digest_len'])) rfl ⟨by rw [HHM.out], hq⟩
end Go.Proofs.YtkelfjpnjhjmoaaDoor
