/- count: Get, Set. -/
import Derived.Test.YtffiphdbjohilaaCtOpen
namespace Go.Proofs.Ytffiphdbjohilaa
open Go.ChangeShapes Go.WideShapes Go.ChangeAt Go.RowKit Go.Deep

theorem results_en_tmp {P : Program} {fn : Func} {p u : Tmp} {ty : TypeId} (h : fn.results = #[.cell p ty, .tmp u]) (tmps : Array Value) (w : World) (g : Nat) (t : TypeId) (cs : Array Value) (d : TypeDesc) (v : Value)
    (hp : tmps.getD p undef = .pointer (some ⟨g, 0, none⟩)) (hg : w.heap[g]? = some (.cells cs t (0, 0))) (hu : P.underlying ty = some d) (hd : (match d with | .struct _ | .array _ _ => true | _ => false) = true) (hi : (P.info? ty).map (·.size) = some cs.size) (hv : tmps.getD u undef = v) :
    (results fn tmps).run P w = .ok (.tuple #[.agg cs, v]) w := by
  have hp' : tmps[p]?.getD undef = .pointer (some ⟨g, 0, none⟩) := by simpa using hp
  have hv' : tmps[u]?.getD undef = v := by simpa using hv
  simp [results, h, hp', hv', asAddr, run_loadVar_row w g t ty cs (0, 0) d hg hu hd hi]
theorem slice_mid {b so m cap n e : Nat} (hn : n ≤ e) (he : e ≤ cap) (hc : n < cap) (w0 : World) :
    (Instr.sliceAt 23 (.slice (some ⟨b, so, none⟩) m cap) (some (.int .i64 (n : Int))) (some (.int .i64 (e : Int))) none).run Try.prog w0 = .ok (.slice (some ⟨b, so + n, none⟩) (e - n) (cap - n)) w0 := by
  have h1 : (n : Int) ≤ (e : Int) := by omega
  have h2 : (e : Int) ≤ (cap : Int) := by omega
  have h3 : ¬ cap = n := by omega
  go_simp
theorem Bs.mid {w : World} {b so m cap n e : Nat} {zs : List Nat} (h : Bs w (.slice (some ⟨b, so, none⟩) m cap) zs) (hn : n < e) (he : e ≤ zs.length) : Bs w (.slice (some ⟨b, so + n, none⟩) (e - n) (cap - n)) ((zs.drop n).take (e - n)) := by
  obtain ⟨h1, h2, ⟨rfl, _⟩ | ⟨h3, b', so1, cap', ev, hcap, hb, hcell⟩⟩ := h
  · simp at he; omega
  simp only [Value.slice.injEq, Option.some.injEq, Addr.mk.injEq, and_true] at ev
  obtain ⟨⟨rfl, rfl⟩, _, rfl⟩ := ev
  have hlen : ((zs.drop n).take (e - n)).length = e - n := by simp; omega
  refine ⟨fun z hz => h1 z (List.mem_of_mem_drop (List.mem_of_mem_take hz)), by rw [hlen]; omega, .inr ⟨by rw [hlen]; omega, b, so + n, cap - n, by rw [hlen], by rw [hlen]; omega, hb, fun i hi => ?_⟩⟩
  rw [hlen] at hi
  rw [Nat.add_assoc, hcell (n + i) (by omega)]
  simp [List.getD, hi]
set_option maxRecDepth 100000 in
theorem get_no {w : World} {ao : Option Addr} {n cap : Nat} {i : Int} (hn : rfa n i ≠ 0) :
    Calls Try.prog 18 #[.slice ao n cap, .int .i64 i] w fun r w' => r = .returned (.tuple #[evalE ⟨0, 0, 0⟩, .int .i64 (rfa n i)]) ∧ But (fun _ => False) w w' := by
  have hze := zeroE
  obtain ⟨W1, hW1⟩ : ∃ W1, W1 = w.alloc (.cells #[.int .u32 0, .int .u32 0, .int .u64 0] 39) := ⟨_, rfl⟩
  have HC := Hid.mk' (refusedAt_any (w := W1) (ao := ao) (n := n) (cap := cap) (i := i))
  have HT1 : Hid (But (fun _ => False) w W1) := by rw [hW1]; exact (But.refl _ _).alloc _
  have HQ1 : Hid (Blk W1 w.heap.size 39 ([] ++ [.int .u32 0, .int .u32 0, .int .u64 0] ++ [])) := by rw [hW1]; exact Blk.new rfl
  have HW := Hid.mk' hW1
  obtain ⟨R, hR⟩ : ∃ R, R = rfa n i := ⟨_, rfl⟩
  rw [← hR] at HC hn ⊢
  have h0 : (R != 0) = true := by simpa using hn
  clear hR hn hW1
  go_enter Try.func18, Try.ntmps18
  go_upto_region 1 with fail
  rw [← HW.out]
  go_wp2_with fail
  refine Calls.mono HC.out ?_
  rintro e w1 ⟨rfl, hw1⟩
  have hw2 := hw1.symm
  subst hw2
  go_wp2_with (refine wpList_store_at rfl _ _ _ rfl w.heap.size 0 [.int .u32 0, .int .u32 0, .int .u64 0] rfl (by exact rfl) 39 [] [.int .u32 0, .int .u32 0, .int .u64 0] [] HQ1.out rfl rfl (by rw [iEn]; rfl) (by simp [Value.oneCell']) ?_; intro w4 hb4 hbut4)
  have hb5 : Blk w4 w.heap.size 39 [.int .u32 0, .int .u32 0, .int .u64 0] := by simpa using hb4
  refine bodyPost_ret (results_en_tmp rfl _ _ w.heap.size _ _ _ _ rfl hb5 Try.underlying39 rfl (by rw [iEn]; rfl) rfl) rfl ⟨rfl, HT1.out.then hbut4 (fun j hj e => by omega)⟩
set_option maxRecDepth 100000 in
set_option maxHeartbeats 2000000 in
theorem get_any {w : World} {v : Value} {zs : List Nat} {i : Nat} (hv : Bs w v zs) (hl : zs.length = 256) (hi : i < 16) :
    Calls Try.prog 18 #[v, .int .i64 (i : Int)] w fun r w' => r = .returned (.tuple #[evalE (atE zs i), .int .i64 0]) ∧ But (fun _ => False) w w' := by
  have hze := zeroE
  have h1 := hv.1
  obtain ⟨_, _, ⟨rfl, _⟩ | ⟨h3, b, so, cap, rfl, hcap, hbl, hcell⟩⟩ := id hv
  · exact absurd hl (by decide)
  rw [hl] at hv hcap ⊢
  obtain ⟨W1, hW1⟩ : ∃ W1, W1 = w.alloc (.cells #[.int .u32 0, .int .u32 0, .int .u64 0] 39) := ⟨_, rfl⟩
  have HC := Hid.mk' (refusedAt_any (w := W1) (ao := some ⟨b, so, none⟩) (n := 256) (cap := cap) (i := (i : Int)))
  have e0 : rfa 256 (i : Int) = 0 := by simp [rfa]; omega
  rw [e0] at HC
  have HT1 : Hid (But (fun _ => False) w W1) := by rw [hW1]; exact (But.refl _ _).alloc _
  have HQ1 : Hid (Blk W1 w.heap.size 39 ([] ++ [.int .u32 0, .int .u32 0, .int .u64 0] ++ [])) := by rw [hW1]; exact Blk.new rfl
  have HW := Hid.mk' hW1
  obtain ⟨k, hk⟩ : ∃ k, k = 16 * i := ⟨_, rfl⟩
  have hm : Bs W1 (.slice (some ⟨b, so + k, none⟩) 16 (cap - k)) ((zs.drop k).take 16) := by
    have := (hv.mid (n := k) (e := k + 16) (by omega) (by omega)).but HT1.out (fun _ _ _ h => h)
    rwa [Nat.add_sub_cancel_left] at this
  have HRD := Hid.mk' (reader_any hm (by rw [List.length_take]; omega))
  have hs := slice_mid (b := b) (so := so) (m := 256) (cap := cap) (n := k) (e := k + 16) (by omega) (by omega) (by omega) W1
  rw [Nat.add_sub_cancel_left] at hs
  obtain ⟨m, hme⟩ : ∃ m, m = k + 16 := ⟨_, rfl⟩
  rw [← hme] at hs
  have k1 : (i : Int) * 16 = (k : Int) := by omega
  have k2 : ((i : Int) + 1) * 16 = (m : Int) := by omega
  have HE : Hid (en ((zs.drop k).take 16) = atE zs i) := by show _ = _; rw [en_take, hk]; rfl
  have HL : Hid (16 ≤ ((zs.drop k).take 16).length) := by show _ ≤ _; rw [List.length_take, List.length_drop]; omega
  have hk2 : m ≤ 256 := by omega
  rw [← HE.out]
  clear hW1 hv hl hcell e0 hm h3 hk h1 hme HE
  generalize (zs.drop k).take 16 = ys at *
  go_enter Try.func18, Try.ntmps18
  go_upto_region 1 with fail
  rw [← HW.out]
  go_wp2_with fail
  refine Calls.mono HC.out ?_
  rintro e w1 ⟨rfl, hw1⟩
  have hw2 := hw1.symm
  subst hw2
  go_wp2_with fail
  refine Calls.mono HRD.out ?_
  rintro e w2 ⟨r, og, rfl, hr, hog, hrd, hbel⟩
  have HT2 : Hid (But (fun _ => False) W1 w2) := But.of hbel
  have HRE := Hid.mk' (read_any hrd HL.out)
  clear hrd hbel hog HRD
  go_wp2_with fail
  refine Calls.mono HRE.out ?_
  rintro e w3 ⟨rfl, -, hb3⟩
  have hs1 := HQ1.out.lt
  have HT3 := Hid.mk' hb3
  have HQ3 := Hid.mk' ((HQ1.out.but HT2.out (fun h => h)).but hb3 (show ¬ (w.heap.size = r) by omega))
  have hwr : w.heap.size < r := by omega
  clear hb3 hr hs1 HRE
  go_wp2_with (refine wpList_store_at rfl _ _ _ rfl w.heap.size 0 (ecells (en ys)) rfl (by exact rfl) 39 [] [.int .u32 0, .int .u32 0, .int .u64 0] [] HQ3.out rfl rfl (by rw [iEn]; rfl) (ecells_one _) ?_; intro w4 hb4 hbut4)
  have hb5 : Blk w4 w.heap.size 39 (ecells (en ys)) := by simpa using hb4
  refine bodyPost_ret (results_en_tmp rfl _ _ w.heap.size _ _ _ _ rfl hb5 Try.underlying39 rfl (by rw [iEn]; rfl) rfl) rfl ⟨rfl, ?_⟩
  exact ((HT1.out.trans HT2.out).then HT3.out (fun j hj e => by omega)).then hbut4 (fun j hj e => by omega)
/-- An own row, opened: what is behind its bytes, and how it is one again. -/
theorem Ow.turn {w : World} {base : Nat} {v : Value} {zs : List Nat} (h : Ow w base v zs) (h0 : 0 < zs.length) : ∃ g cap R, v = .slice (some ⟨g, 0, none⟩) zs.length cap ∧ zs.length ≤ cap ∧ base ≤ g ∧ Blk w g 5 (u8s zs ++ R) ∧
    ∀ w' zs', zs'.length = zs.length → (∀ z ∈ zs', z < 256) → Blk w' g 5 (u8s zs' ++ R) → Ow w' base v zs' := by
  obtain ⟨h1, h2, h3, ⟨_, h4⟩ | ⟨g, cap, cur, rfl, hg, hh, hcap, hmax, hs, ht⟩⟩ := h
  · omega
  refine ⟨g, cap, cur.toList.drop zs.length, rfl, hcap, hg, ?_, ?_⟩
  · rw [Nat.mul_one] at ht
    rw [← ht, List.take_append_drop]
    exact hh
  · intro w' zs' hl hz hb
    refine ⟨hz, by omega, by simp [u8s, hl], .inr ⟨g, cap, _, by rw [hl], hg, hb, by omega, hmax, ?_, ?_⟩⟩
    · simp only [List.size_toArray, List.length_append, List.length_drop, Array.length_toList]
      simp [u8s] at hs ⊢
      omega
    · rw [Nat.mul_one]
      rw [List.take_append_of_le_length (by simp [u8s]), List.take_of_length_le (by simp [u8s])]
theorem set_no {w : World} {ao : Option Addr} {n cap : Nat} {i : Int} (x : En) (hn : rfa n i ≠ 0) :
    Calls Try.prog 17 #[.slice ao n cap, .int .i64 i, evalE x] w fun r w' => r = .returned (.tuple #[.slice none 0 0, .int .i64 (rfa n i)]) ∧ But (fun _ => False) w w' := by
  obtain ⟨E, B, S⟩ := x
  obtain ⟨W1, hW1⟩ : ∃ W1, W1 = w.alloc (.cells #[.int .u32 (E : Int), .int .u32 (B : Int), .int .u64 (S : Int)] 39) := ⟨_, rfl⟩
  have HC := Hid.mk' (refusedAt_any (w := W1) (ao := ao) (n := n) (cap := cap) (i := i))
  have HT1 : Hid (But (fun _ => False) w W1) := by rw [hW1]; exact (But.refl _ _).alloc _
  have HW := Hid.mk' hW1
  obtain ⟨R, hR⟩ : ∃ R, R = rfa n i := ⟨_, rfl⟩
  rw [← hR] at HC hn ⊢
  have h0 : (R != 0) = true := by simpa using hn
  clear hR hn hW1
  show Calls _ _ #[_, _, .agg #[_, _, _]] _ _
  go_enter Try.func17, Try.ntmps17
  go_upto_region 1 with fail
  rw [← HW.out]
  go_wp2_with fail
  refine Calls.mono HC.out ?_
  rintro e w1 ⟨rfl, hw1⟩
  have hw2 := hw1.symm
  subst hw2
  go_wp2
  go_ret2
  exact ⟨rfl, HT1.out⟩
set_option maxRecDepth 100000 in
set_option maxHeartbeats 2000000 in
theorem set_any {w : World} {v : Value} {zs : List Nat} {i : Nat} (x : En) (hx : x.ok) (hv : Bs w v zs) (hl : zs.length = 256) (hi : i < 16) :
    Calls Try.prog 17 #[v, .int .i64 (i : Int), evalE x] w fun r w' => ∃ v', r = .returned (.tuple #[v', .int .i64 0]) ∧ Ow w' w.heap.size v' (setE zs i x) ∧ But (fun _ => False) w w' := by
  have HX := Hid.mk' hx
  obtain ⟨E, B, S⟩ := x
  obtain ⟨ao, cap, rfl, -, -⟩ := hv.gen
  have HV := Hid.mk' hv
  rw [hl] at HV ⊢
  obtain ⟨W1, hW1⟩ : ∃ W1, W1 = w.alloc (.cells #[.int .u32 (E : Int), .int .u32 (B : Int), .int .u64 (S : Int)] 39) := ⟨_, rfl⟩
  obtain ⟨p, hp⟩ : ∃ p, p = w.heap.size := ⟨_, rfl⟩
  have HC := Hid.mk' (refusedAt_any (w := W1) (ao := ao) (n := 256) (cap := cap) (i := (i : Int)))
  have e0 : rfa 256 (i : Int) = 0 := by simp [rfa]; omega
  rw [e0] at HC
  have HT1 : Hid (But (fun _ => False) w W1) := by rw [hW1]; exact (But.refl _ _).alloc _
  have HQ1 : Hid (Blk W1 p 39 (ecells ⟨E, B, S⟩)) := by rw [hW1]; exact Blk.new hp.symm
  have HCL := Hid.mk' (clone_any (HV.out.but HT1.out (fun _ _ _ h => h)) (by rw [hl]; decide))
  have HW := Hid.mk' hW1
  have HP := Hid.mk' hp
  have HL := Hid.mk' hl
  clear hW1 hv hl e0 hx hp
  show Calls _ _ #[_, _, .agg #[_, _, _]] _ _
  go_enter Try.func17, Try.ntmps17
  go_upto_region 1 with fail
  rw [← HW.out, ← HP.out]
  go_wp2_with fail
  refine Calls.mono HC.out ?_
  rintro e w1 ⟨rfl, hw1⟩
  have hw2 := hw1.symm
  subst hw2
  go_wp2_with fail
  refine Calls.mono HCL.out ?_
  rintro e w2 ⟨v', rfl, how, hbel⟩
  obtain ⟨g, c2, R, rfl, hc2, hgb, hb2, htn⟩ := how.turn (by rw [HL.out]; decide)
  rw [HL.out] at hc2 htn ⊢
  have HTN := Hid.mk' htn
  have HT2 : Hid (But (fun _ => False) W1 w2) := But.of hbel
  have HQ2 := Hid.mk' (HQ1.out.but HT2.out (fun h => h))
  have HLY := Hid.mk' (lay_any (w := w2) (g := g) (cap := c2) (i := i) (zs := zs) (R := R) ⟨E, B, S⟩ HX.out hb2 HL.out hc2 hi)
  clear htn hb2 hbel how HCL HC
  go_wp2_with (refine wpList_load_cells rfl _ _ rfl ⟨p, 0, none⟩ rfl (ecells ⟨E, B, S⟩) _ HQ2.out.cells0 Try.underlying39 rfl (by rw [iEn]; rfl) ?_)
  refine Calls.mono HLY.out ?_
  rintro e w3 ⟨rfl, hb3, ht3⟩
  have hz : ∀ z ∈ setE zs i ⟨E, B, S⟩, z < 256 := setE_lt _ HV.out.1
  have HO := Hid.mk' (HTN.out w3 _ (by rw [setE_len _ (by rw [HL.out]; omega), HL.out]) hz hb3)
  have hs1 := HT1.out.size
  have HT3 : Hid (But (fun _ => False) w w3) := (HT1.out.trans HT2.out).then ht3 (fun j hj e => by omega)
  clear hb3 ht3 hz hs1
  go_wp2
  go_ret2
  exact ⟨_, rfl, HO.out.mono HT1.out.size, HT3.out⟩
end Go.Proofs.Ytffiphdbjohilaa
