/- The program's blockOf and masked. -/
import Derived.Test.YtkelfjpnjhjmoaaDoorMacMath
namespace Go.Proofs.YtkelfjpnjhjmoaaDoor
open Go.RowKit

/-- A whole array of bytes into a variable that is made for it. -/
theorem wpList_store_u8s {T : TypeId} {n : Nat} (hi : (Tryd.prog.info? T).map (·.size) = some n) {w : World} {ops : Array Oper} {rest : List Oper} {o : Oper} {a : Act} {Q : Exit → Act → World → Prop} (hgd : o.guard = none) (x y : Operand) (ho : o.op = .store T x y)
    (g : Nat) (D : List Nat) (hD : D.length = n) (hx : a.eval x = .pointer (some ⟨g, 0, none⟩)) (hy : a.eval y = .agg (u8s D).toArray) (L : List Value) (hL : L.length = n) (hb : Blk w g T L)
    (h : ∀ w', Blk w' g T (u8s D) → But (· = g) w w' → wpList Tryd.prog ops Q rest (a.put o.dst undef) w') : wpList Tryd.prog ops Q (o :: rest) a w := by
  refine wpList_store_at hgd T x y ho g 0 (u8s D) hx hy T [] L [] (by simpa using hb) rfl (by simp [u8s, hD, hL]) (by rw [hi]; simp [u8s, hD]) (u8s_one _) ?_
  intro w' hb' hb2
  exact h w' (by simpa using hb') hb2
/-- A whole array of bytes out of a variable. -/
theorem wpList_load_u8s {T : TypeId} {n : Nat} {l : Nat} {e : TypeId} (hu : Tryd.prog.underlying T = some (.array l e)) (hi : (Tryd.prog.info? T).map (·.size) = some n)
    {w : World} {ops : Array Oper} {rest : List Oper} {o : Oper} {a : Act} {Q : Exit → Act → World → Prop} (hgd : o.guard = none) (x : Operand) (ho : o.op = .load T x)
    (g : Nat) (D : List Nat) (hD : D.length = n) (hx : a.eval x = .pointer (some ⟨g, 0, none⟩)) (hb : Blk w g T (u8s D))
    (h : wpList Tryd.prog ops Q rest (a.put o.dst (.agg (u8s D).toArray)) w) : wpList Tryd.prog ops Q (o :: rest) a w :=
  wpList_load_row hgd T x ho g hx T _ (0, 0) _ hb hu rfl (by rw [hi]; simp [u8s, hD]) h
theorem i64s : (Tryd.prog.info? 40).map (·.size) = some 64 := by kernel_rfl
theorem i32s : (Tryd.prog.info? 27).map (·.size) = some 32 := by kernel_rfl

theorem mask_next (m : Nat) (b : List Nat) (k : Nat) (hk : k < b.length) : ((maskBy m b).take k ++ b.drop k).set k (b.getD k 0 ^^^ m) = (maskBy m b).take (k + 1) ++ b.drop (k + 1) := by
  have e1 : b.drop k = b.getD k 0 :: b.drop (k + 1) := by
    rw [List.drop_eq_getElem_cons hk]; simp [List.getD, hk]
  have e2 : (maskBy m b).take (k + 1) = (maskBy m b).take k ++ [b.getD k 0 ^^^ m] := by
    rw [take_next' _ k (by rw [maskBy_len]; exact hk)]
    simp [maskBy, List.getD, hk]
  have hl : ((maskBy m b).take k).length = k := by simp [maskBy_len]; omega
  rw [e1, e2, List.set_append_right _ _ (by omega), hl, Nat.sub_self, List.set_cons_zero, List.append_assoc]
  rfl
theorem mask_get (m : Nat) (b : List Nat) (k : Nat) (hk : k < b.length) : ((maskBy m b).take k ++ b.drop k).getD k 0 = b.getD k 0 := by
  have hl : ((maskBy m b).take k).length = k := by simp [maskBy_len]; omega
  simp only [List.getD]
  rw [List.getElem?_append_right (by omega), hl, Nat.sub_self, List.getElem?_drop]; simp
theorem u8s_set (L : List Nat) (k x : Nat) : (u8s L).set k (.int .u8 (x : Int)) = u8s (L.set k x) := by simp [u8s, List.map_set]

set_option maxRecDepth 100000 in
set_option maxHeartbeats 1000000 in
theorem masked_any {w : World} {b : List Nat} {m : Nat} (hb : b.length = 64) (hlt : ∀ z ∈ b, z < 256) (hm : m < 256) :
    Calls Tryd.prog 23 #[.agg (u8s b).toArray, .int .u8 (m : Int)] w fun e w' => e = .returned (.agg (u8s (maskBy m b)).toArray) ∧ But (fun _ => False) w w' := by
  have hz : ∀ w : World, (zeroValue 40).run Tryd.prog w = .ok (.agg (u8s (List.replicate 64 0)).toArray) w := fun _ => by kernel_rfl
  obtain ⟨Z, hZ⟩ : ∃ Z, Z = (u8s (List.replicate 64 0)).toArray := ⟨_, rfl⟩
  rw [← hZ] at hz
  obtain ⟨C, hC⟩ : ∃ C, C = (u8s b).toArray := ⟨_, rfl⟩
  rw [← hC]
  have HB0 : Hid (Blk ((w.alloc (.cells C 40)).alloc (.cells Z 40)) w.heap.size 40 (u8s ((maskBy m b).take 0 ++ b.drop 0))) := by
    rw [hC]; exact (Blk.new (L := u8s b) rfl).but ((But.refl (fun _ => False) _).alloc _) (fun h => h)
  have HB1 : Hid (Blk ((w.alloc (.cells C 40)).alloc (.cells Z 40)) (w.heap.size + 1) 40 (u8s (List.replicate 64 0))) := by
    rw [hZ]; exact Blk.new (by simp)
  have HBB : Hid (But (fun _ => False) w ((w.alloc (.cells C 40)).alloc (.cells Z 40))) := ((But.refl _ w).alloc _).alloc _
  have HL := Hid.mk' hb
  have HLT := Hid.mk' hlt
  clear hC hZ hb hlt
  go_enter Tryd.func23, Tryd.ntmps23
  go_wp2
  go_loopw [6] (fun i wr => ∃ k : Nat, k ≤ 64 ∧ i = .int .i64 k ∧ Blk wr w.heap.size 40 (u8s ((maskBy m b).take k ++ b.drop k)) ∧ Blk wr (w.heap.size + 1) 40 (u8s (List.replicate 64 0)) ∧ But (fun _ => False) w wr) (fun i _ => 64 - (intOf i).toNat)
  case atStart => exact ⟨0, by decide, rfl, HB0.out, HB1.out, HBB.out⟩
  case round =>
    obtain ⟨k, hk, rfl, h0, h1, hbt⟩ := hrel
    have hfr := h0.free k
    have hcell := h0.cell k
    have H0 := Hid.mk' h0
    have H1 := Hid.mk' h1
    have HBT := Hid.mk' hbt
    clear h0 h1 hbt
    by_cases hlt : k < 64
    · obtain ⟨x, hx⟩ : ∃ x, x = b.getD k 0 := ⟨_, rfl⟩
      rw [u8s_get _ k (by simp [maskBy_len, HL.out]; omega), mask_get m b k (by rw [HL.out]; exact hlt), ← hx] at hcell
      have hx1 : x < 256 := by rw [hx]; exact HLT.out _ (getD_mem b k (by rw [HL.out]; exact hlt))
      have hv1 : bits .xor .u8 (x : Int) (m : Int) = ((x ^^^ m : Nat) : Int) := u8_xor_nat x m hx1 hm
      have HX := Hid.mk' hx
      have hlti : (k : Int) < 64 := by omega
      clear hx
      go_wp2
      refine ⟨⟨k + 1, by omega, by go_num, ?_, ?_, ?_⟩, by simp [intOf]; omega⟩
      · rw [← mask_next m b k (by rw [HL.out]; exact hlt), ← u8s_set, ← HX.out]
        exact H0.out.set k _
      · exact H1.out.but ((But.refl (· = w.heap.size) wr).setCell (fun _ => rfl) _) (by omega)
      · exact HBT.out.setCell (fun h => by have h' : w.heap.size < w.heap.size := h; omega) _
    · have hge : ¬ ((k : Int) < 64) := by omega
      have e : (maskBy m b).take k ++ b.drop k = maskBy m b := by
        rw [List.take_of_length_le (by rw [maskBy_len, HL.out]; omega), List.drop_of_length_le (by rw [HL.out]; omega), List.append_nil]
      rw [e] at H0
      have HML : Hid ((maskBy m b).length = 64) := by show _ = _; rw [maskBy_len, HL.out]
      obtain ⟨M, hM⟩ : ∃ M, M = maskBy m b := ⟨_, rfl⟩
      rw [← hM] at H0 HML
      have HM := Hid.mk' hM
      clear hcell e hM
      go_wp2_with (first
        | (refine wpList_load_u8s Tryd.underlying40 i64s rfl _ rfl w.heap.size M HML.out rfl H0.out ?_)
        | (refine wpList_store_u8s i64s rfl _ _ rfl (w.heap.size + 1) M HML.out rfl (by exact rfl) _ (by simp [u8s]) H1.out ?_; intro w2 hb2 hbut2))
      refine bodyPost_ret (results_cell_row rfl _ _ (w.heap.size + 1) _ _ _ _ rfl hb2 Tryd.underlying40 rfl (by rw [i64s]; simp [u8s, HML.out])) rfl ⟨by rw [HM.out], ?_⟩
      exact HBT.out.then hbut2 (fun i hi e => by omega)

/-- Bytes into a block of noughts. -/
theorem copy_in {w : World} {g : Nat} {T : TypeId} {v : Value} {key : List Nat} (ty : TypeId) (hb : Blk w g T (u8s (List.replicate 64 0))) (hv : Bs w v key) (h : key.length ≤ 64) :
    ∃ w', (Builtin.copy_ #[22, 22] ty #[.slice (some ⟨g, 0, none⟩) 64 64, v]).run Tryd.prog w = .ok (.int .i64 (key.length : Int)) w' ∧ Blk w' g T (u8s (key ++ List.replicate (64 - key.length) 0)) ∧ But (· = g) w w' := by
  have hsz : (Tryd.prog.info? 5).map (·.size) = some 1 := by kernel_rfl
  obtain ⟨_, _, ⟨rfl, hv⟩ | ⟨h0, b, off, cap, rfl, _, _, hc⟩⟩ := hv
  · refine ⟨w, ?_, by simpa using hb, But.refl _ _⟩
    rcases hv with rfl | ⟨a, cap, rfl⟩
    · exact run_copy_none w 22 22 ty 5 _ _ _ _ _ _ Tryd.underlying22 hsz rfl
    · exact run_copy_none w 22 22 ty 5 _ _ _ _ _ _ Tryd.underlying22 hsz rfl
  · have hn : key.length = Nat.min key.length 64 := (Nat.min_eq_left h).symm
    have hb' : Blk w g T ([] ++ u8s (List.replicate key.length 0) ++ u8s (List.replicate (64 - key.length) 0)) := by
      have e : [] ++ u8s (List.replicate key.length 0) ++ u8s (List.replicate (64 - key.length) 0) = u8s (List.replicate 64 0) := by
        have : List.replicate 64 0 = List.replicate key.length 0 ++ List.replicate (64 - key.length) 0 := by
          rw [List.replicate_append_replicate]; congr 1; omega
        rw [this]; simp [u8s]
      rw [e]; exact hb
    refine ⟨_, run_copy_blk ty hb' rfl (by simp [u8s]) hn hc, ?_, (But.refl (· = g) w).setRow (fun _ => rfl) _⟩
    have h2 := hb'.row ([] ++ u8s (key.take key.length) ++ u8s (List.replicate (64 - key.length) 0))
    have e : [] ++ u8s (key.take key.length) ++ u8s (List.replicate (64 - key.length) 0) = u8s (key ++ List.replicate (64 - key.length) 0) := by simp [u8s]
    rw [e] at h2 ⊢
    exact h2

theorem Ps.one' {w : World} {v : Value} {xs : List Nat} {g : Nat} (h : Bs w v xs) (hg : w.heap.size = g) : Ps (w.alloc (.cells #[v] 22)) (.slice (some ⟨g, 0, none⟩) 1 1) [xs] := by
  subst hg
  have k : But (fun _ => False) w (w.alloc (.cells #[v] 22)) := (But.refl _ w).alloc _
  refine .inr ⟨by simp, w.heap.size, 0, 1, rfl, by simp, fun i hi => ?_⟩
  have hi0 : i = 0 := by simp at hi; exact hi
  subst hi0
  refine ⟨v, ?_, h.but k (fun _ _ _ h => h)⟩
  have hb : Blk (w.alloc (.cells [v].toArray 22)) w.heap.size 22 [v] := Blk.new rfl
  exact hb.cell 0

set_option maxRecDepth 100000 in
set_option maxHeartbeats 1000000 in
theorem block_any {w : World} {v : Value} {key : List Nat} (hv : Bs w v key) (hk : Kw w) (hh : Hw w) (hlen : key.length ≤ 1073741000) :
    Calls Tryd.prog 22 #[v] w fun e w' => e = .returned (.agg (u8s (keyBlock key)).toArray) ∧ But (fun _ => False) w w' := by
  have hz : ∀ w : World, (zeroValue 40).run Tryd.prog w = .ok (.agg (u8s (List.replicate 64 0)).toArray) w := fun _ => by kernel_rfl
  obtain ⟨Z, hZ⟩ : ∃ Z, Z = (u8s (List.replicate 64 0)).toArray := ⟨_, rfl⟩
  rw [← hZ] at hz
  have hz2 : ∀ w : World, (zeroValue 27).run Tryd.prog w = .ok (.agg (u8s (List.replicate 32 0)).toArray) w := fun _ => by kernel_rfl
  obtain ⟨O, hO⟩ : ∃ O, O = (u8s (List.replicate 32 0)).toArray := ⟨_, rfl⟩
  rw [← hO] at hz2
  have HB0 : Hid (Blk ((w.alloc (.cells Z 40)).alloc (.cells Z 40)) w.heap.size 40 (u8s (List.replicate 64 0))) := by
    rw [hZ]; exact (Blk.new (L := u8s (List.replicate 64 0)) rfl).but ((But.refl (fun _ => False) _).alloc _) (fun h => h)
  have HB1 : Hid (Blk ((w.alloc (.cells Z 40)).alloc (.cells Z 40)) (w.heap.size + 1) 40 (u8s (List.replicate 64 0))) := by
    rw [hZ]; exact Blk.new (by simp)
  have hbb : But (fun _ => False) w ((w.alloc (.cells Z 40)).alloc (.cells Z 40)) := ((But.refl _ w).alloc _).alloc _
  have HO := Hid.mk' hO
  have HKL := Hid.mk' (keyBlock_len key)
  clear hO hZ
  by_cases h64 : 64 < key.length
  · have hps := Ps.one' (g := w.heap.size + 1 + 1) (hv.but hbb (fun _ _ _ h => h)) (by simp)
    have hb3 : But (fun _ => False) w (((w.alloc (.cells Z 40)).alloc (.cells Z 40)).alloc (.cells #[v] 22)) := hbb.alloc _
    have hof := of_any hps (hk.but hb3 (fun h => h)) (hh.but hb3 (fun h => h)) (by simpa using hlen) (by simp)
    rw [show [key].flatten = key by simp] at hof
    have hkb : keyBlock key = digest key ++ List.replicate (64 - (digest key).length) 0 := by unfold keyBlock keyOf; rw [if_pos h64]
    rw [hkb] at HKL ⊢
    have HDL := Hid.mk' (digest_len' key)
    have HDB := Hid.mk' (digest_lt key)
    have HB3 := Hid.mk' hb3
    have HB0' := Hid.mk' (HB0.out.but ((But.refl (fun _ => False) _).alloc (.cells #[v] 22)) (fun h => h))
    have HB1' := Hid.mk' (HB1.out.but ((But.refl (fun _ => False) _).alloc (.cells #[v] 22)) (fun h => h))
    obtain ⟨a0, c0, rfl, -, -⟩ := hv.gen
    obtain ⟨n, hn⟩ : ∃ n, n = key.length := ⟨_, rfl⟩
    rw [← hn] at hof h64 hb3 HB3 HB0' HB1' ⊢
    have HOF := Hid.mk' hof
    generalize digest key = D at *
    have h64i : (64 : Int) < (n : Int) := by omega
    clear hof hps hb3 hbb hkb hv hk hh hlen hn HB0 HB1
    go_enter Tryd.func22, Tryd.ntmps22
    go_wp2_with (first
      | (go_at_call 17; refine Calls.mono HOF.out ?_; rintro e w3 ⟨rfl, hb3⟩)
      | (refine wpList_store_u8s i32s rfl _ _ rfl w3.heap.size D HDL.out rfl (by exact rfl) (u8s (List.replicate 32 0)) rfl (by rw [HO.out]; exact Blk.new rfl) ?_; intro w5 hb5 hbut5
         have q5 : But (fun _ => False) w3 w5 := ((But.refl _ w3).alloc _).then hbut5 (fun i hi e => by omega)
         have HBZ := Hid.mk' ((HB1'.out.but hb3 (fun h => h)).but q5 (fun h => h))
         have hR5 := (HB0'.out.but hb3 (fun h => h)).but q5 (fun h => h)
         have s3 := (HB3.out.trans hb3).size
         have s3' := (HB1'.out.but hb3 (fun h => h)).lt
         have hbs5 : Bs w5 (.slice (some ⟨w3.heap.size, 0, none⟩) 32 32) D := by
           have h := Blk.bs (Y := []) (cap := 32) (by simpa using hb5) HDB.out (by rw [HDL.out]; decide) (by rw [HDL.out]; decide) (by rw [HDL.out]; decide)
           rw [HDL.out] at h; exact h
         obtain ⟨wc, hcopy, hblk, hbutc⟩ := copy_in 3 HBZ.out hbs5 (by rw [HDL.out]; decide)
         have HBL := Hid.mk' hblk
         have HR := Hid.mk' (hR5.but hbutc (by omega))
         have HBU : Hid (But (fun _ => False) w wc) := ((HB3.out.trans hb3).trans q5).then hbutc (fun i hi e => by omega)
         rw [HDL.out] at hcopy
         clear hblk hbutc hbs5 hR5 HBZ)
      | (refine wpList_load_u8s Tryd.underlying40 i64s rfl _ rfl (w.heap.size + 1) _ HKL.out rfl HBL.out ?_)
      | (refine wpList_store_u8s i64s rfl _ _ rfl w.heap.size _ HKL.out rfl (by exact rfl) _ (by simp [u8s]) HR.out ?_; intro w2 hb2 hbut2))
    refine bodyPost_ret (results_cell_row rfl _ _ w.heap.size _ _ _ _ rfl hb2 Tryd.underlying40 rfl (by rw [i64s]; simp only [List.size_toArray, u8s, List.length_map, HKL.out])) rfl ⟨rfl, ?_⟩
    exact HBU.out.then hbut2 (fun i hi e => by omega)
  · have h64i : ¬ (64 : Int) < (key.length : Int) := by omega
    have hkb : keyBlock key = key ++ List.replicate (64 - key.length) 0 := by unfold keyBlock keyOf; rw [if_neg h64]
    obtain ⟨wc, hcopy, hblk, hbut⟩ := copy_in 3 HB1.out (hv.but hbb (fun _ _ _ h => h)) (by omega)
    rw [← hkb] at hblk
    have HBL := Hid.mk' hblk
    have HR := Hid.mk' (HB0.out.but hbut (by omega))
    have HBU : Hid (But (fun _ => False) w wc) := hbb.then hbut (fun i hi e => by omega)
    obtain ⟨a0, c0, rfl, -, -⟩ := hv.gen
    obtain ⟨n, hn⟩ : ∃ n, n = key.length := ⟨_, rfl⟩
    obtain ⟨M, hM⟩ : ∃ M, M = keyBlock key := ⟨_, rfl⟩
    rw [← hM] at HBL HKL ⊢
    rw [← hn] at hcopy h64i ⊢
    clear hblk hbut hbb hv hkb h64 hn hk hh hlen HB0 HB1 hM
    go_enter Tryd.func22, Tryd.ntmps22
    go_wp2_with (first
      | (refine wpList_load_u8s Tryd.underlying40 i64s rfl _ rfl (w.heap.size + 1) M HKL.out rfl HBL.out ?_)
      | (refine wpList_store_u8s i64s rfl _ _ rfl w.heap.size M HKL.out rfl (by exact rfl) _ (by simp [u8s]) HR.out ?_; intro w2 hb2 hbut2))
    refine bodyPost_ret (results_cell_row rfl _ _ w.heap.size _ _ _ _ rfl hb2 Tryd.underlying40 rfl (by rw [i64s]; simp [u8s, HKL.out])) rfl ⟨rfl, ?_⟩
    exact HBU.out.then hbut2 (fun i hi e => by omega)
end Go.Proofs.YtkelfjpnjhjmoaaDoor
