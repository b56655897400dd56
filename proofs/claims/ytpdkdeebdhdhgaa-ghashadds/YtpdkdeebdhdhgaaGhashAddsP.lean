/- Of two texts of one length the sums of both, of their sum, and of as many noughts come to 0. No condition. -/
import Derived.Test.YtpdkdeebdhdhgaaGhashAwake
import Derived.Test.YtpdkdeebdhdhgaaStages
import Derived.Laws.MakeOwn
namespace Go.Proofs.Ytpdkdeebdhdhgaa
open Go.ChangeShapes Go.WideShapes Go.ChangeAt Go.RowKit

theorem bt_app (t R : List Nat) (j : Nat) : bt (t ++ R) j = if j < t.length then bt t j else bt R (j - t.length) := by
  unfold bt List.getD
  by_cases h : j < t.length
  · rw [if_pos h, List.getElem?_append_left h]
  · rw [if_neg h, List.getElem?_append_right (by omega)]
theorem gall_one (t : List Nat) : gall [] t = t ++ (List.replicate ((16 - t.length % 16) % 16) 0 ++ lastB 0 t.length) := by
  show padB [] ++ padB t ++ lastB 0 t.length = _
  rw [show padB [] = [] from rfl, List.nil_append]
  unfold padB
  rw [List.append_assoc]
theorem bt_gall (t : List Nat) (n : Nat) (ht : t.length = n) (j : Nat) : bt (gall [] t) j = if j < n then bt t j else bt (List.replicate ((16 - n % 16) % 16) 0 ++ lastB 0 n) (j - n) := by
  rw [gall_one, bt_app, ht]
/-- The first k bytes of two lists' sum, then bytes 0. -/
def mixB (xs ys : List Nat) (n k : Nat) : List Nat := (List.range n).map fun j => if j < k then b8 (bt xs j ^^^ bt ys j) else 0
theorem mixB_len (xs ys : List Nat) (n k : Nat) : (mixB xs ys n k).length = n := by simp [mixB]
theorem mixB_zero (xs ys : List Nat) (n : Nat) : mixB xs ys n 0 = List.replicate n 0 := by
  apply List.ext_getElem (by simp [mixB])
  intro i h1 h2
  simp only [mixB, List.getElem_map, List.getElem_replicate]
  rw [if_neg (Nat.not_lt_zero _)]
theorem mixB_set (xs ys : List Nat) (n k : Nat) : (mixB xs ys n k).set k (b8 (bt xs k ^^^ bt ys k)) = mixB xs ys n (k + 1) := by
  apply List.ext_getElem (by simp [mixB])
  intro i h1 h2
  simp only [List.getElem_set, mixB, List.getElem_map, List.getElem_range]
  by_cases e : k = i
  · rw [if_pos e, if_pos (by omega), e]
  · rw [if_neg e]
    by_cases e2 : i < k
    · rw [if_pos e2, if_pos (by omega)]
    · rw [if_neg e2, if_neg (by omega)]
theorem mixB_lt (xs ys : List Nat) (n k : Nat) : ∀ z ∈ mixB xs ys n k, z < 256 := by
  intro z hz
  obtain ⟨j, _, rfl⟩ := List.mem_map.1 hz
  show (if j < k then b8 (bt xs j ^^^ bt ys j) else 0) < 256
  split
  · exact b8_lt _
  · decide
theorem bt_mix (xs ys : List Nat) (n j : Nat) (h : j < n) : bt (mixB xs ys n n) j = bt xs j ^^^ bt ys j := by
  have e : (mixB xs ys n n).getD j 0 = b8 (bt xs j ^^^ bt ys j) := by
    unfold mixB List.getD
    rw [List.getElem?_map, List.getElem?_range h]
    show (if j < n then _ else 0) = _
    rw [if_pos h]
  show BitVec.ofNat 8 ((mixB xs ys n n).getD j 0) = _
  rw [e]
  unfold b8
  simp
theorem bt_rep (n j : Nat) : bt (List.replicate n 0) j = 0#8 := by
  unfold bt List.getD
  rw [List.getElem?_replicate]
  split <;> rfl
theorem bt_take (xs : List Nat) (n j : Nat) (h : j < n) : bt (xs.take n) j = bt xs j := by
  unfold bt List.getD
  rw [List.getElem?_take, if_pos h]
/-- The four sums come to 0. -/
theorem adds_zero (h : List B8) (xs ys : List Nat) (n : Nat) (h1 : n ≤ xs.length) (h2 : n ≤ ys.length) :
    gadd (gadd (gsum h [] (xs.take n)) (gsum h [] (ys.take n))) (gadd (gsum h [] (mixB xs ys n n)) (gsum h [] (List.replicate n 0))) = gzero := by
  refine four_zero ?_
  have l1 : (xs.take n).length = n := by rw [List.length_take]; omega
  have l2 : (ys.take n).length = n := by rw [List.length_take]; omega
  unfold gsum
  rw [l1, l2, mixB_len, List.length_replicate, toG_sum, toG_sum, toG_sum, toG_sum]
  refine four_sums (toG h) (fun j => ?_) _
  rw [bt_gall _ n l1, bt_gall _ n l2, bt_gall _ n (mixB_len xs ys n n), bt_gall _ n List.length_replicate]
  by_cases hj : j < n
  · rw [if_pos hj, if_pos hj, if_pos hj, if_pos hj, bt_take xs n j hj, bt_take ys n j hj, bt_mix xs ys n j hj, bt_rep]
    simp
  · rw [if_neg hj, if_neg hj, if_neg hj, if_neg hj]
    simp
theorem made_bytes (n : Nat) : madeCells (Value.cells (.int .u8 0)) n = (u8s (List.replicate n 0)).toArray := by
  apply Array.ext
  · simp [madeCells, u8s]
  · intro i h1 h2
    simp [madeCells, u8s, Value.cells, Nat.mod_one]
theorem make_bytes (w : World) (n : Nat) (h : n ≤ 2000) : Sem.run Try.prog (Instr.makeSlice 27 (.int .i64 (n : Int)) (.int .i64 (n : Int))) w = .ok (.slice (some ⟨w.heap.size, 0, none⟩) n n) (w.alloc (.cells (u8s (List.replicate n 0)).toArray 5)) := by
  obtain ⟨i, hi, hz, hs, hby⟩ := info_parts u8info
  have h1 := run_makeSlice (P := Try.prog) (w := w) 27 5 i (.int .u8 0) Try.underlying27 hi hz .i64 .i64 (n : Int) (n : Int) (by omega) (Int.le_refl _) (by rw [hs]; omega) (by rw [hby]; omega) (by omega)
  have e : (n : Int).toNat * i.size = n := by rw [hs]; omega
  rw [e, made_bytes] at h1
  exact h1
theorem run_indexS {w : World} {o : Oper} {a : Act} {x y : Operand} {ao : Option Addr} {b off A c k : Nat} (ho : o.op = .indexAddr 27 x y) (hx : a.eval x = .slice ao A c) (hao : ao = some ⟨b, off, none⟩) (hy : a.eval y = .int .i64 (k : Int)) (hk : k < A) :
    (execOp a.eval o).run Try.prog w = .ok (.value (.pointer (some ⟨b, off + k, none⟩))) w := by
  subst hao
  have hk' : (k : Int) < (A : Int) := by omega
  unfold execOp
  simp only [ho, hx, hy]
  go_simp
theorem run_loadS {w : World} {o : Oper} {a : Act} {x : Operand} {p : Addr} {z : Nat} (ho : o.op = .load 5 x) (hx : a.eval x = .pointer (some p)) (hc : w.cell? p = some (.int .u8 (z : Int))) :
    (execOp a.eval o).run Try.prog w = .ok (.value (.int .u8 (z : Int))) w := by
  unfold execOp
  simp only [ho, hx]
  go_simp
theorem run_slice_to {w w' : World} {ao : Option Addr} {A c n : Nat} {xs : List Nat} (hb : Bs w' (.slice ao A c) xs) (hn : n ≤ A) (hA : xs.length = A) : Sem.run Try.prog (Instr.sliceAt 27 (.slice ao A c) none (some (.int .i64 (n : Int))) none) w = .ok (.slice ao n c) w := by
  obtain ⟨ao', c', e, hnone, -⟩ := hb.gen
  simp only [Value.slice.injEq] at e
  obtain ⟨rfl, -, rfl⟩ := e
  have hcap : A ≤ c := by
    obtain ⟨-, -, ⟨rfl, -⟩ | ⟨-, b, off, cap', e, hcap, -, -⟩⟩ := hb
    · simp at hA; omega
    · simp only [Value.slice.injEq] at e
      omega
  cases ao with
  | none =>
    obtain ⟨h0, rfl⟩ := hnone rfl
    obtain rfl : n = 0 := by omega
    go_simp
  | some ad =>
    have hn' : (n : Int) ≤ (c : Int) := by omega
    go_simp
/-- The act of a goal brought down. -/
theorem act_letter {P : Program} {c : Code} {Q : Exit → Act → World → Prop} {a : Act} {w : World} (h : ∀ K : Act → Prop, (∀ b, Code.wp P c Q b w → K b) → K a) : Code.wp P c Q a w := h _ (fun _ h => h)
/-- What memory is amid a region that at last makes a variable and stores a state into it. -/
structure PutC (w0 : World) (x : List B8) (ia is : Nat) (d : Nat → Bool) (f : Nat → Value) (w : World) : Prop where
  but : But (fun _ => False) w0 w
  al : d ia = true → ∃ g, f ia = .pointer (some ⟨g, 0, none⟩) ∧ w0.heap.size ≤ g ∧ (d is = false → Blk w g 22 (u8s (List.replicate 16 0))) ∧ (d is = true → Blk w g 22 (u8s (nts x)))
theorem PutC.keep {w0 w : World} {x : List B8} {ia is : Nat} {d : Nat → Bool} {f : Nat → Value} (h : PutC w0 x ia is d f w) {i : Nat} (v : Value) (h1 : ia ≠ i) (h2 : is ≠ i) : PutC w0 x ia is (upd d i true) (upd f i v) w := by
  refine ⟨h.but, ?_⟩
  rw [upd_other d true h1, upd_other d true h2, upd_other f v h1]
  exact h.al
theorem PutC.then {w0 w w' : World} {x : List B8} {ia is : Nat} {d : Nat → Bool} {f : Nat → Value} (h : PutC w0 x ia is d f w) (k : But (fun _ => False) w w') : PutC w0 x ia is d f w' := by
  refine ⟨h.but.trans k, fun hd => ?_⟩
  obtain ⟨g, e, hg, h1, h2⟩ := h.al hd
  exact ⟨g, e, hg, fun hs => (h1 hs).but k (fun h => h), fun hs => (h2 hs).but k (fun h => h)⟩
theorem PutC.made {w0 w : World} {x : List B8} {ia is : Nat} {d : Nat → Bool} {f : Nat → Value} (h : PutC w0 x ia is d f w) (hs : d is = false) (hn : is ≠ ia) (Z : Array Value) (hZ : Z = (u8s (List.replicate 16 0)).toArray) : PutC w0 x ia is (upd d ia true) (upd f ia (.pointer (some ⟨w.heap.size, 0, none⟩))) (w.alloc (.cells Z 22)) := by
  refine ⟨h.but.trans ((But.refl _ w).alloc _), fun _ => ⟨w.heap.size, upd_same _ _ _, h.but.size, fun _ => by rw [hZ]; exact Blk.new rfl, fun e => ?_⟩⟩
  rw [upd_other d true hn, hs] at e
  cases e
theorem PutC.put {w0 w w' : World} {x : List B8} {ia is : Nat} {d : Nat → Bool} {f : Nat → Value} {g : Nat} (h : PutC w0 x ia is d f w) (hn : ia ≠ is) (e : f ia = .pointer (some ⟨g, 0, none⟩)) (hg : w0.heap.size ≤ g) (hb : Blk w' g 22 (u8s (nts x))) (k : But (· = g) w w') (v : Value) : PutC w0 x ia is (upd d is true) (upd f is v) w' := by
  refine ⟨h.but.then k (fun j hj e => by omega), fun _ => ⟨g, by rw [upd_other f v hn]; exact e, hg, fun e2 => ?_, fun _ => hb⟩⟩
  rw [upd_same] at e2; cases e2
structure AddC (w0 : World) (x : List B8) (n : Nat) (S4 Y : Array Value) (d : Nat → Bool) (f : Nat → Value) (w : World) : Prop where
  put : PutC w0 x 8 9 d f w
  row : d 5 = true → d 6 = false → ∃ gz, f 5 = .slice (some ⟨gz, 0, none⟩) n n ∧ Blk w gz 5 (u8s (List.replicate n 0))
  v6 : d 6 = true → f 6 = .agg S4
  v7 : d 7 = true → f 7 = .agg Y
theorem AddC.keep {w0 w : World} {x : List B8} {n : Nat} {S4 Y : Array Value} {d : Nat → Bool} {f : Nat → Value} (h : AddC w0 x n S4 Y d f w) {i : Nat} (v : Value) (h5 : 5 ≠ i) (h6 : 6 ≠ i) (h7 : 7 ≠ i) (h8 : 8 ≠ i) (h9 : 9 ≠ i) : AddC w0 x n S4 Y (upd d i true) (upd f i v) w := by
  refine ⟨h.put.keep v h8 h9, ?_, ?_, ?_⟩
  · rw [upd_other d true h5, upd_other d true h6, upd_other f v h5]; exact h.row
  · rw [upd_other d true h6, upd_other f v h6]; exact h.v6
  · rw [upd_other d true h7, upd_other f v h7]; exact h.v7
theorem AddC.then {w0 w w' : World} {x : List B8} {n : Nat} {S4 Y : Array Value} {d : Nat → Bool} {f : Nat → Value} (h : AddC w0 x n S4 Y d f w) (k : But (fun _ => False) w w') : AddC w0 x n S4 Y d f w' :=
  ⟨h.put.then k, fun a b => (h.row a b).elim fun gz hz => ⟨gz, hz.1, hz.2.but k (fun h => h)⟩, h.v6, h.v7⟩
theorem blk_bs {w : World} {g n : Nat} {L : List Nat} (h : Blk w g 5 (u8s L)) (hn : L.length = n) (hs : n ≤ 2000) (hl : ∀ z ∈ L, z < 256) : Bs w (.slice (some ⟨g, 0, none⟩) n n) L := by
  refine ⟨hl, by omega, ?_⟩
  by_cases h0 : n = 0
  · subst h0
    exact .inl ⟨List.eq_nil_of_length_eq_zero hn, .inr ⟨_, _, rfl⟩⟩
  · refine .inr ⟨by omega, g, 0, n, by rw [hn], by omega, h.lt, fun i hi => ?_⟩
    rw [Nat.zero_add, h.cell]; exact u8s_get L i hi
theorem callGSum (args : Array Value) (w : World) : (callFunc 16 args).run Try.prog w = .ok (.enter 16 args) w := by kernel_rfl
theorem callGAdd (args : Array Value) (w : World) : (callFunc 12 args).run Try.prog w = .ok (.enter 12 args) w := by kernel_rfl
theorem min_three (ts : Array TypeId) (t : TypeId) (A D n : Nat) (h : n = min (min A D) 2000) (w : World) : (Builtin.min_ ts t #[.int .i64 (A : Int), .int .i64 (D : Int), .int .i64 2000]).run Try.prog w = .ok (.int .i64 (n : Int)) w := by
  subst h
  by_cases h1 : (A : Int) < (D : Int) <;> by_cases h2 : (A : Int) < 2000 <;> by_cases h3 : (D : Int) < 2000 <;> simp [Builtin.min_, Builtin.min2, go_sem] <;> omega
set_option maxRecDepth 100000 in
set_option maxHeartbeats 4000000 in
theorem ghashAdds_walk (u : Value) (h : List B8) (v1 : Value) (xs : List Nat) (v2 : Value) (ys : List Nat) (w : World) (hh : h.length = 16 ∧ u = .agg (u8s (nts h)).toArray) (h1 : Bs w v1 xs ∧ xs.length ≤ 140737488351232) (h2 : Bs w v2 ys ∧ ys.length ≤ 140737488351232) :
    Calls Try.prog 6 #[u, v1, v2] w fun e w' => e = .returned (.bool true) ∧ Below w.heap.size w w' := by
  obtain ⟨hh, rfl⟩ := hh
  obtain ⟨h1, hl1⟩ := h1
  obtain ⟨h2, hl2⟩ := h2
  obtain ⟨H, hH⟩ : ∃ H, H = (u8s (nts h)).toArray := ⟨_, rfl⟩
  rw [← hH]
  have HH := Hid.mk' hH
  obtain ⟨g, hg⟩ : ∃ g, g = w.heap.size := ⟨_, rfl⟩
  obtain ⟨W0, hW0⟩ : ∃ W0, W0 = w.alloc (.cells H 22) := ⟨_, rfl⟩
  have HK0 := Hid.mk' (show Blk W0 g 22 (u8s (nts h)) by rw [hW0, hH]; exact Blk.new hg.symm)
  have HK00 : Hid (Blk (w.alloc (.cells H 22)) w.heap.size 22 (u8s (nts h))) := by show Blk _ _ _ _; rw [← hW0, ← hg]; exact HK0.out
  have HT0 := Hid.mk' (show But (fun _ => False) w W0 by rw [hW0]; exact (But.refl _ w).alloc _)
  have HV1 := Hid.mk' h1
  have HV2 := Hid.mk' h2
  have HHN : Hid ((nts h).length = 16) := by show _ = _; rw [nts_len]; exact hh
  have HHL := Hid.mk' hh
  obtain ⟨ao1, c1, rfl, hno1, -⟩ := h1.gen
  obtain ⟨ao2, c2, rfl, hno2, -⟩ := h2.gen
  obtain ⟨A, hA⟩ : ∃ n, n = xs.length := ⟨_, rfl⟩
  obtain ⟨D, hD⟩ : ∃ k, k = ys.length := ⟨_, rfl⟩
  have HA := Hid.mk' hA
  have HD := Hid.mk' hD
  rw [← hA] at HV1 hl1 ⊢
  rw [← hD] at HV2 hl2 ⊢
  obtain ⟨n, hn⟩ : ∃ n, n = min (min A D) 2000 := ⟨_, rfl⟩
  have hnA : n ≤ A := by omega
  have hnD : n ≤ D := by omega
  have hn2 : n ≤ 2000 := by omega
  have HNE := Hid.mk' hn
  have HG := Hid.mk' hg
  have HW0 := Hid.mk' hW0
  clear hh h1 h2 hH hg hW0 hA hD hno1 hno2 hn
  have HNW := Hid.mk' (pnew_any (w := W0) HHL.out)
  rw [← HH.out] at HNW
  have hmin := fun w => min_three #[3, 3, 3] 3 A D n HNE.out w
  go_enter Try.func6, Try.ntmps6
  go_wp2_with (first
    | (refine wpList_load_u8s Try.underlying22 i16g rfl _ rfl w.heap.size (nts h) HHN.out rfl HK00.out ?_; rw [← HH.out])
    | fail)
  rw [← HW0.out, ← HG.out]
  refine Calls.mono HNW.out ?_
  rintro e w1 ⟨gk, rfl, hky, -, hb1⟩
  have HKY1 := Hid.mk' hky
  have HT1 := Hid.mk' (HT0.out.trans hb1)
  clear hky hb1 HNW HK0 HK00 HT0 hmin
  have hmk := fun w => make_bytes w n hn2
  obtain ⟨M, hM⟩ : ∃ M, M = (u8s (List.replicate n 0)).toArray := ⟨_, rfl⟩
  rw [← hM] at hmk
  have HM := Hid.mk' hM
  clear hM
  obtain ⟨gb, hgb⟩ : ∃ gb, gb = w1.heap.size := ⟨_, rfl⟩
  obtain ⟨W1, hW1⟩ : ∃ W1, W1 = w1.alloc (.cells M 5) := ⟨_, rfl⟩
  have HB1 := Hid.mk' (show Blk W1 gb 5 (u8s (mixB xs ys n 0)) by rw [hW1, HM.out, mixB_zero]; exact Blk.new hgb.symm)
  have hbw : But (fun _ => False) w1 W1 := by rw [hW1]; exact (But.refl _ w1).alloc _
  have HKYB := Hid.mk' (HKY1.out.but hbw (fun h => h))
  have HTB := Hid.mk' (HT1.out.trans hbw)
  have HGB : Hid (gk < gb ∧ w.heap.size ≤ gb) := by rw [hgb]; exact ⟨HKY1.out.lt, HT1.out.size⟩
  have HW1 := Hid.mk' hW1
  have HGBE := Hid.mk' hgb
  clear hbw hgb hW1
  go_wp2
  rw [← HW1.out, ← HGBE.out]
  go_loopw [10] (fun i wr => ∃ k : Nat, k ≤ n ∧ i = .int .i64 k ∧ Blk wr gb 5 (u8s (mixB xs ys n k)) ∧ But (· = gb) W1 wr) (fun i _ => n - (intOf i).toNat)
  case atStart => exact ⟨0, by omega, rfl, HB1.out, But.refl _ _⟩
  case round =>
    obtain ⟨k, hk, rfl, hB, hbt⟩ := hrel
    have HB := Hid.mk' hB
    have HBT := Hid.mk' hbt
    clear hB hbt HB1
    by_cases hlt : k < n
    · have hki : (k : Int) < (n : Int) := by omega
      have hTr : But (fun _ => False) w wr := HTB.out.then HBT.out (fun j hj e => by have := HGB.out.2; omega)
      have b1 := HV1.out.but hTr (fun _ _ _ h => h)
      have b2 := HV2.out.but hTr (fun _ _ _ h => h)
      obtain ⟨p1, o1, hao1, HC1⟩ : ∃ p o, ao1 = some ⟨p, o, none⟩ ∧ Hid (∀ w', But (fun _ => False) wr w' → w'.cell? ⟨p, o + k, none⟩ = some (.int .u8 (b8 (bt xs k) : Nat))) := by
        obtain ⟨hz, -, ⟨e, -⟩ | ⟨-, p, o, cap', e, -, -, -⟩⟩ := id b1
        · have := HA.out; rw [e] at this; simp at this; omega
        · simp only [Value.slice.injEq] at e
          refine ⟨p, o, e.1, fun w' hw' => ?_⟩
          obtain ⟨-, -, ⟨e', -⟩ | ⟨-, p', o', cap'', e', -, -, hc⟩⟩ := b1.but hw' (fun _ _ _ h => h)
          · have := HA.out; rw [e'] at this; simp at this; omega
          · simp only [Value.slice.injEq] at e'
            have e3 : some (⟨p, o, none⟩ : Addr) = some ⟨p', o', none⟩ := e.1.symm.trans e'.1
            cases e3
            rw [hc k (by rw [← HA.out]; omega)]
            unfold bt
            rw [b8_of _ (hz _ (getD_mem xs k (by rw [← HA.out]; omega)))]
      obtain ⟨p2, o2, hao2, HC2⟩ : ∃ p o, ao2 = some ⟨p, o, none⟩ ∧ Hid (∀ w', But (fun _ => False) wr w' → w'.cell? ⟨p, o + k, none⟩ = some (.int .u8 (b8 (bt ys k) : Nat))) := by
        obtain ⟨hz, -, ⟨e, -⟩ | ⟨-, p, o, cap', e, -, -, -⟩⟩ := id b2
        · have := HD.out; rw [e] at this; simp at this; omega
        · simp only [Value.slice.injEq] at e
          refine ⟨p, o, e.1, fun w' hw' => ?_⟩
          obtain ⟨-, -, ⟨e', -⟩ | ⟨-, p', o', cap'', e', -, -, hc⟩⟩ := b2.but hw' (fun _ _ _ h => h)
          · have := HD.out; rw [e'] at this; simp at this; omega
          · simp only [Value.slice.injEq] at e'
            have e3 : some (⟨p, o, none⟩ : Addr) = some ⟨p', o', none⟩ := e.1.symm.trans e'.1
            cases e3
            rw [hc k (by rw [← HD.out]; omega)]
            unfold bt
            rw [b8_of _ (hz _ (getD_mem ys k (by rw [← HD.out]; omega)))]
      have HAO1 := Hid.mk' hao1
      have HAO2 := Hid.mk' hao2
      have hxo := xor_b8 (bt xs k) (bt ys k)
      clear hao1 hao2 b1 b2 hTr
      go_upto_region 7 with fail
      refine region_class (l := [_, _, _, _, _, _, _, _, _, _, _, _]) (o := _) (fun w' => But (fun _ => False) wr w') (by kernel_rfl) (by kernel_rfl) (by kernel_rfl) rfl (by kernel_rfl) (by kernel_rfl) ((But.refl _ wr).drew) ?_
      refine class_val _ rfl (fun w' _ => rfl) ?_
      intro K hK; go_simp; refine hK _ ?_; clear hK K
      refine class_val _ rfl (fun w' _ => rfl) ?_
      intro K hK; go_simp; refine hK _ ?_; clear hK K
      refine class_val _ rfl (fun w' _ => rfl) ?_
      intro K hK; go_simp; refine hK _ ?_; clear hK K
      refine class_val _ rfl (fun w' _ => rfl) ?_
      intro K hK; go_simp; refine hK _ ?_; clear hK K
      refine class_val (.pointer (some ⟨p1, o1 + k, none⟩)) rfl (fun w' _ => run_indexS rfl rfl HAO1.out rfl (by omega)) ?_
      intro K hK; go_simp; refine hK _ ?_; clear hK K
      refine class_val (.int .u8 (b8 (bt xs k) : Nat)) rfl (fun w' hw' => run_loadS rfl rfl (HC1.out w' hw')) ?_
      intro K hK; go_simp; refine hK _ ?_; clear hK K
      refine class_val _ rfl (fun w' _ => rfl) ?_
      intro K hK; go_simp; refine hK _ ?_; clear hK K
      refine class_val _ rfl (fun w' _ => rfl) ?_
      intro K hK; go_simp; refine hK _ ?_; clear hK K
      refine class_val (.pointer (some ⟨p2, o2 + k, none⟩)) rfl (fun w' _ => run_indexS rfl rfl HAO2.out rfl (by omega)) ?_
      intro K hK; go_simp; refine hK _ ?_; clear hK K
      refine class_val (.int .u8 (b8 (bt ys k) : Nat)) rfl (fun w' hw' => run_loadS rfl rfl (HC2.out w' hw')) ?_
      intro K hK; go_simp; refine hK _ ?_; clear hK K
      refine class_val (.int .u8 (b8 (bt xs k ^^^ bt ys k) : Nat)) rfl (fun w' _ => by go_simp) ?_
      intro K hK; go_simp; refine hK _ ?_; clear hK K
      refine class_val (.pointer (some ⟨gb, k, none⟩)) rfl (fun w' _ => by go_simp) ?_
      intro K hK; go_simp; refine hK _ ?_; clear hK K
      refine wpQuiet_nil ?_
      intro w5 hw5
      have HB5 := Hid.mk' (HB.out.but hw5 (fun h => h))
      have c5 : w5.cell? ⟨gb, k, none⟩ = some (.int .u8 ((mixB xs ys n k).getD k 0 : Nat)) := by rw [HB5.out.cell]; exact u8s_get _ k (by rw [mixB_len]; exact hlt)
      generalize (mixB xs ys n k).getD k 0 = z0 at c5
      have f5 := HB5.out.free k
      clear hxo
      go_wp2
      refine ⟨⟨k + 1, by omega, by go_num, ?_, ?_⟩, by simp [intOf]; omega⟩
      · rw [← mixB_set xs ys n k, ← u8s_set]
        exact HB5.out.set k _
      · exact (HBT.out.trans (hw5.mono (fun _ _ h => h.elim))).trans ((But.refl (· = gb) w5).setCell (p := ⟨gb, k, none⟩) (fun _ => rfl) _)
    · have hkn : n = k := by omega
      subst hkn
      have hTr : But (fun _ => False) w wr := HTB.out.then HBT.out (fun j hj e => by have := HGB.out.2; omega)
      have HTR := Hid.mk' hTr
      have HKR := Hid.mk' (HKYB.out.but HBT.out (show ¬ (gk = gb) by have := HGB.out.1; omega))
      have HVA : Hid (∀ w', But (fun _ => False) wr w' → Bs w' (.slice ao1 n c1) (xs.take n)) := fun w' hw' => Bs.front ((HV1.out.but hTr (fun _ _ _ h => h)).but hw' (fun _ _ _ h => h)) (by rw [← HA.out]; exact hnA) (fun e => by have hb := HV1.out.gen; obtain ⟨a', c', e1, h0, -⟩ := hb; cases e1; exact (h0 e).2)
      have HVB : Hid (∀ w', But (fun _ => False) wr w' → Bs w' (.slice ao2 n c2) (ys.take n)) := fun w' hw' => Bs.front ((HV2.out.but hTr (fun _ _ _ h => h)).but hw' (fun _ _ _ h => h)) (by rw [← HD.out]; exact hnD) (fun e => by have hb := HV2.out.gen; obtain ⟨a', c', e1, h0, -⟩ := hb; cases e1; exact (h0 e).2)
      have hsl1 : ∀ w', Sem.run Try.prog (Instr.sliceAt 27 (.slice ao1 A c1) none (some (.int .i64 (n : Int))) none) w' = .ok (.slice ao1 n c1) w' := fun w' => run_slice_to HV1.out hnA HA.out.symm
      have hsl2 : ∀ w', Sem.run Try.prog (Instr.sliceAt 27 (.slice ao2 D c2) none (some (.int .i64 (n : Int))) none) w' = .ok (.slice ao2 n c2) w' := fun w' => run_slice_to HV2.out hnD HD.out.symm
      obtain ⟨s1, hs1⟩ : ∃ s, s = gsum h [] (xs.take n) := ⟨_, rfl⟩
      obtain ⟨s2, hs2⟩ : ∃ s, s = gsum h [] (ys.take n) := ⟨_, rfl⟩
      have HL1 : Hid (s1.length = 16) := by show _ = _; rw [hs1]; exact gsumN_len _ _ _
      have HL2 : Hid (s2.length = 16) := by show _ = _; rw [hs2]; exact gsumN_len _ _ _
      obtain ⟨S1, hS1⟩ : ∃ S, S = (u8s (nts s1)).toArray := ⟨_, rfl⟩
      obtain ⟨S2, hS2⟩ : ∃ S, S = (u8s (nts s2)).toArray := ⟨_, rfl⟩
      obtain ⟨x1, hx1⟩ : ∃ x, x = gadd s1 s2 := ⟨_, rfl⟩
      obtain ⟨X1, hX1⟩ : ∃ X, X = (u8s (nts x1)).toArray := ⟨_, rfl⟩
      have HXN : Hid ((nts x1).length = 16) := by show _ = _; rw [hx1, nts_len, gadd_len]
      have hz := zeroG
      obtain ⟨Z, hZ⟩ : ∃ Z, Z = (u8s (List.replicate 16 0)).toArray := ⟨_, rfl⟩
      rw [← hZ] at hz
      have HCA : Hid (∀ w', But (fun _ => False) wr w' → Calls Try.prog 16 #[.pointer (some ⟨gk, 0, none⟩), .slice none 0 0, .slice ao1 n c1] w' fun e w'' => e = .returned (.agg S1) ∧ But (fun _ => False) w' w'') := by
        intro w' hw'
        rw [hS1, hs1]
        exact psum_any (HKR.out.but hw' (fun h => h)) (Bs.nil w') (HVA.out w' hw') (by decide) (by rw [List.length_take]; omega)
      have HCB : Hid (∀ w', But (fun _ => False) wr w' → Calls Try.prog 16 #[.pointer (some ⟨gk, 0, none⟩), .slice none 0 0, .slice ao2 n c2] w' fun e w'' => e = .returned (.agg S2) ∧ But (fun _ => False) w' w'') := by
        intro w' hw'
        rw [hS2, hs2]
        exact psum_any (HKR.out.but hw' (fun h => h)) (Bs.nil w') (HVB.out w' hw') (by decide) (by rw [List.length_take]; omega)
      have HCX : Hid (∀ w', Calls Try.prog 12 #[.agg S1, .agg S2] w' fun e w'' => e = .returned (.agg X1) ∧ But (fun _ => False) w' w'') := by
        intro w'
        rw [hS1, hS2, hX1, hx1]
        exact rgadd_any HL1.out HL2.out
      have HZ := Hid.mk' hZ
      have HXE := Hid.mk' hX1
      have HX1 := Hid.mk' hx1
      have HS1 := Hid.mk' hs1
      have HS2 := Hid.mk' hs2
      clear hTr hs1 hs2 hS1 hS2 hx1 hX1 hZ
      go_upto_region 8 with fail
      refine region_frame [some 39, some 40, some 41, some 42, some 43, some 44, some 45, some 46, some 47, some 48, some 49, some 11, none] (by kernel_rfl) [some (.pointer (some ⟨gk, 0, none⟩)), some (.slice ao1 A c1), some (.int .i64 (n : Int)), some (.slice ao1 n c1), some (.agg S1), some (.pointer (some ⟨gk, 0, none⟩)), some (.slice ao2 D c2), some (.int .i64 (n : Int)), some (.slice ao2 n c2), some (.agg S2), some (.agg X1), none, none] (PutC wr x1 11 12) (by kernel_rfl) (by kernel_rfl) (by kernel_rfl) (by kernel_rfl) (by kernel_rfl) (by kernel_rfl) ?_ ?_ ?_ ?_ ?_
      · intro f
        exact ⟨(But.refl _ wr).drew, nofun⟩
      · intro i v d f wx hu hC
        exact hC.keep v (by rintro rfl; cases hu) (by rintro rfl; cases hu)
      · intro ρ r0 r1 r2 j o u d f wx ho hu hdi hsh hC
        have E39 := r1 0 39 _ (by kernel_rfl) rfl
        have E40 := r1 1 40 _ (by kernel_rfl) rfl
        have E41 := r1 2 41 _ (by kernel_rfl) rfl
        have E42 := r1 3 42 _ (by kernel_rfl) rfl
        have E43 := r1 4 43 _ (by kernel_rfl) rfl
        have E44 := r1 5 44 _ (by kernel_rfl) rfl
        have E45 := r1 6 45 _ (by kernel_rfl) rfl
        have E46 := r1 7 46 _ (by kernel_rfl) rfl
        have E47 := r1 8 47 _ (by kernel_rfl) rfl
        have E48 := r1 9 48 _ (by kernel_rfl) rfl
        have E49 := r1 10 49 _ (by kernel_rfl) rfl
        have O8 : ρ (.tmp 8) = .pointer (some ⟨gk, 0, none⟩) := r2 8 (by kernel_rfl)
        have O1 : ρ (.tmp 1) = .slice ao1 A c1 := r2 1 (by kernel_rfl)
        have O2 : ρ (.tmp 2) = .slice ao2 D c2 := r2 2 (by kernel_rfl)
        have O7 : ρ (.tmp 7) = .int .i64 (n : Int) := r2 7 (by kernel_rfl)
        have ON : ρ (.const (.slice none 0 0)) = .slice none 0 0 := r0.1 _
        have h1 := hsl1 wx
        have h2 := hsl2 wx
        match j with
        | 0 =>
          simp only [List.getElem?_toArray, List.getElem?_cons_zero, Option.some.injEq] at ho
          subst ho
          obtain rfl := Option.some.inj hu
          go_simp
        | 1 =>
          simp only [List.getElem?_toArray, List.getElem?_cons_succ, List.getElem?_cons_zero, Option.some.injEq] at ho
          subst ho
          obtain rfl := Option.some.inj hu
          go_simp
        | 2 =>
          simp only [List.getElem?_toArray, List.getElem?_cons_succ, List.getElem?_cons_zero, Option.some.injEq] at ho
          subst ho
          obtain rfl := Option.some.inj hu
          go_simp
        | 3 =>
          simp only [List.getElem?_toArray, List.getElem?_cons_succ, List.getElem?_cons_zero, Option.some.injEq] at ho
          subst ho
          obtain rfl := Option.some.inj hu
          go_simp
        | 4 =>
          simp only [List.getElem?_toArray, List.getElem?_cons_succ, List.getElem?_cons_zero, Option.some.injEq] at ho
          subst ho
          obtain rfl := Option.some.inj hu
          refine quiet_call 16 [_, _, _] _ #[.pointer (some ⟨gk, 0, none⟩), .slice none 0 0, .slice ao1 n c1] rfl (r0.2 _) (by simp [E39, ON, E42]) (callGSum _ _) ?_
          refine Calls.mono (HCA.out wx hC.but) ?_
          rintro e w2 ⟨rfl, hbut2⟩
          exact ⟨rfl, hC.then hbut2⟩
        | 5 =>
          simp only [List.getElem?_toArray, List.getElem?_cons_succ, List.getElem?_cons_zero, Option.some.injEq] at ho
          subst ho
          obtain rfl := Option.some.inj hu
          go_simp
        | 6 =>
          simp only [List.getElem?_toArray, List.getElem?_cons_succ, List.getElem?_cons_zero, Option.some.injEq] at ho
          subst ho
          obtain rfl := Option.some.inj hu
          go_simp
        | 7 =>
          simp only [List.getElem?_toArray, List.getElem?_cons_succ, List.getElem?_cons_zero, Option.some.injEq] at ho
          subst ho
          obtain rfl := Option.some.inj hu
          go_simp
        | 8 =>
          simp only [List.getElem?_toArray, List.getElem?_cons_succ, List.getElem?_cons_zero, Option.some.injEq] at ho
          subst ho
          obtain rfl := Option.some.inj hu
          go_simp
        | 9 =>
          simp only [List.getElem?_toArray, List.getElem?_cons_succ, List.getElem?_cons_zero, Option.some.injEq] at ho
          subst ho
          obtain rfl := Option.some.inj hu
          refine quiet_call 16 [_, _, _] _ #[.pointer (some ⟨gk, 0, none⟩), .slice none 0 0, .slice ao2 n c2] rfl (r0.2 _) (by simp [E44, ON, E47]) (callGSum _ _) ?_
          refine Calls.mono (HCB.out wx hC.but) ?_
          rintro e w2 ⟨rfl, hbut2⟩
          exact ⟨rfl, hC.then hbut2⟩
        | 10 =>
          simp only [List.getElem?_toArray, List.getElem?_cons_succ, List.getElem?_cons_zero, Option.some.injEq] at ho
          subst ho
          obtain rfl := Option.some.inj hu
          refine quiet_call 12 [_, _] _ #[.agg S1, .agg S2] rfl (r0.2 _) (by simp [E43, E48]) (callGAdd _ _) ?_
          refine Calls.mono (HCX.out wx) ?_
          rintro e w2 ⟨rfl, hbut2⟩
          exact ⟨rfl, hC.then hbut2⟩
        | 11 => cases hu
        | 12 => cases hu
        | j + 13 => cases hu
      · intro j o d f a wx ho hu hdi hsh hw hC hsee
        match j with
        | 11 =>
          simp only [List.getElem?_toArray, List.getElem?_cons_succ, List.getElem?_cons_zero, Option.some.injEq] at ho
          subst ho
          have hd12 : d 12 = false := by
            cases hq : d 12 with
            | false => rfl
            | true =>
              have hh := hsh 12 _ 11 rfl (by kernel_rfl) hq
              rw [hdi] at hh; cases hh
          refine op_alloc 22 Z rfl (hz wx) ?_
          exact ⟨_, rfl, hC.made hd12 (by decide) Z HZ.out⟩
        | 12 =>
          simp only [List.getElem?_toArray, List.getElem?_cons_succ, List.getElem?_cons_zero, Option.some.injEq] at ho
          subst ho
          have hd11 := hw 11 (by kernel_rfl)
          obtain ⟨gx, e11, hgx, hb1, -⟩ := hC.al hd11
          have e49 := hsee.tab 10 49 _ (by kernel_rfl) (by kernel_rfl) rfl
          have e11' := (hsee.dep 11 11 (by kernel_rfl) (by kernel_rfl)).trans e11
          refine op_store_u8s i16g _ _ rfl gx (nts x1) HXN.out e11' (by rw [e49, HXE.out]) _ (by simp [u8s]) (hb1 hdi) ?_
          intro w' hb' hbut'
          exact ⟨undef, rfl, hC.put (by decide) e11 hgx hb' hbut' _⟩
        | 0 => cases hu
        | 1 => cases hu
        | 2 => cases hu
        | 3 => cases hu
        | 4 => cases hu
        | 5 => cases hu
        | 6 => cases hu
        | 7 => cases hu
        | 8 => cases hu
        | 9 => cases hu
        | 10 => cases hu
        | j + 13 => cases ho
      · intro f w6 hC hval
        obtain ⟨gx, e11, hgx, -, hbx⟩ := hC.al rfl
        have HBX := Hid.mk' (hbx rfl)
        have HBU := Hid.mk' hC.but
        have HGX := Hid.mk' hgx
        have v0 := hval 0 _ (by decide) rfl
        have v1 := hval 1 _ (by decide) rfl
        have v2 := hval 2 _ (by decide) rfl
        have v3 := hval 3 _ (by decide) rfl
        have v4 := hval 4 _ (by decide) rfl
        have v5 := hval 5 _ (by decide) rfl
        have v6 := hval 6 _ (by decide) rfl
        have v7 := hval 7 _ (by decide) rfl
        have v8 := hval 8 _ (by decide) rfl
        have v9 := hval 9 _ (by decide) rfl
        have v10 := hval 10 _ (by decide) rfl
        clear hC hval hgx hbx
        simp only [putL, e11, v0, v1, v2, v3, v4, v5, v6, v7, v8, v9, v10]
        clear e11 v0 v1 v2 v3 v4 v5 v6 v7 v8 v9 v10
        have HKR6 := Hid.mk' (HKR.out.but HBU.out (fun h => h))
        have HBB6 := Hid.mk' (HB.out.but HBU.out (fun h => h))
        have HT6 := Hid.mk' (HTR.out.trans HBU.out)
        obtain ⟨s3, hs3⟩ : ∃ s, s = gsum h [] (mixB xs ys n n) := ⟨_, rfl⟩
        obtain ⟨s4, hs4⟩ : ∃ s, s = gsum h [] (List.replicate n 0) := ⟨_, rfl⟩
        have HL3 : Hid (s3.length = 16) := by show _ = _; rw [hs3]; exact gsumN_len _ _ _
        have HL4 : Hid (s4.length = 16) := by show _ = _; rw [hs4]; exact gsumN_len _ _ _
        obtain ⟨S3, hS3⟩ : ∃ S, S = (u8s (nts s3)).toArray := ⟨_, rfl⟩
        obtain ⟨S4, hS4⟩ : ∃ S, S = (u8s (nts s4)).toArray := ⟨_, rfl⟩
        obtain ⟨x2, hx2⟩ : ∃ x, x = gadd s3 s4 := ⟨_, rfl⟩
        obtain ⟨X2, hX2⟩ : ∃ X, X = (u8s (nts x2)).toArray := ⟨_, rfl⟩
        have HX2N : Hid ((nts x2).length = 16) := by show _ = _; rw [hx2, nts_len, gadd_len]
        have HCC : Hid (∀ w', But (fun _ => False) w6 w' → Calls Try.prog 16 #[.pointer (some ⟨gk, 0, none⟩), .slice none 0 0, .slice (some ⟨gb, 0, none⟩) n n] w' fun e w'' => e = .returned (.agg S3) ∧ But (fun _ => False) w' w'') := by
          intro w' hw'
          rw [hS3, hs3]
          exact psum_any (HKR6.out.but hw' (fun h => h)) (Bs.nil w') (blk_bs (HBB6.out.but hw' (fun h => h)) (mixB_len _ _ _ _) hn2 (mixB_lt _ _ _ _)) (by decide) (by rw [mixB_len]; omega)
        have HCD : Hid (∀ w' gz, But (fun _ => False) w6 w' → Blk w' gz 5 (u8s (List.replicate n 0)) → Calls Try.prog 16 #[.pointer (some ⟨gk, 0, none⟩), .slice none 0 0, .slice (some ⟨gz, 0, none⟩) n n] w' fun e w'' => e = .returned (.agg S4) ∧ But (fun _ => False) w' w'') := by
          intro w' gz hw' hbz
          rw [hS4, hs4]
          exact psum_any (HKR6.out.but hw' (fun h => h)) (Bs.nil w') (blk_bs hbz List.length_replicate hn2 (fun z hz => by rw [(List.mem_replicate.1 hz).2]; decide)) (by decide) (by rw [List.length_replicate]; omega)
        have HCY : Hid (∀ w', Calls Try.prog 12 #[.agg S3, .agg S4] w' fun e w'' => e = .returned (.agg X2) ∧ But (fun _ => False) w' w'') := by
          intro w'
          rw [hS3, hS4, hX2, hx2]
          exact rgadd_any HL3.out HL4.out
        have HX2E := Hid.mk' hX2
        have HX2 := Hid.mk' hx2
        have HS3 := Hid.mk' hs3
        have HS4 := Hid.mk' hs4
        clear hs3 hs4 hS3 hS4 hx2 hX2
        go_upto_region 9 with fail
        refine act_letter ?_
        intro K hK; go_simp; refine hK _ ?_; clear hK K
        refine region_frame [some 50, some 51, some 52, some 53, some 54, some 55, some 56, some 57, some 12, none] (by kernel_rfl) [some (.pointer (some ⟨gk, 0, none⟩)), some (.slice (some ⟨gb, 0, none⟩) n n), some (.agg S3), some (.pointer (some ⟨gk, 0, none⟩)), some (.int .i64 (n : Int)), none, none, none, none, none] (AddC w6 x2 n S4 X2) (by kernel_rfl) (by kernel_rfl) (by kernel_rfl) (by kernel_rfl) (by kernel_rfl) (by kernel_rfl) ?_ ?_ ?_ ?_ ?_
        · intro f
          exact ⟨⟨(But.refl _ w6).drew, nofun⟩, nofun, nofun, nofun⟩
        · intro i v d f wx hu hC
          exact hC.keep v (by rintro rfl; cases hu) (by rintro rfl; cases hu) (by rintro rfl; cases hu) (by rintro rfl; cases hu) (by rintro rfl; cases hu)
        · intro ρ r0 r1 r2 j o u d f wx ho hu hdi hsh hC
          have E50 := r1 0 50 _ (by kernel_rfl) rfl
          have E51 := r1 1 51 _ (by kernel_rfl) rfl
          have E52 := r1 2 52 _ (by kernel_rfl) rfl
          have E53 := r1 3 53 _ (by kernel_rfl) rfl
          have E54 := r1 4 54 _ (by kernel_rfl) rfl
          have O8 : ρ (.tmp 8) = .pointer (some ⟨gk, 0, none⟩) := r2 8 (by kernel_rfl)
          have O9 : ρ (.tmp 9) = .slice (some ⟨gb, 0, none⟩) n n := r2 9 (by kernel_rfl)
          have O7 : ρ (.tmp 7) = .int .i64 (n : Int) := r2 7 (by kernel_rfl)
          have ON : ρ (.const (.slice none 0 0)) = .slice none 0 0 := r0.1 _
          match j with
          | 0 =>
            simp only [List.getElem?_toArray, List.getElem?_cons_zero, Option.some.injEq] at ho
            subst ho
            obtain rfl := Option.some.inj hu
            go_simp
          | 1 =>
            simp only [List.getElem?_toArray, List.getElem?_cons_succ, List.getElem?_cons_zero, Option.some.injEq] at ho
            subst ho
            obtain rfl := Option.some.inj hu
            go_simp
          | 2 =>
            simp only [List.getElem?_toArray, List.getElem?_cons_succ, List.getElem?_cons_zero, Option.some.injEq] at ho
            subst ho
            obtain rfl := Option.some.inj hu
            refine quiet_call 16 [_, _, _] _ #[.pointer (some ⟨gk, 0, none⟩), .slice none 0 0, .slice (some ⟨gb, 0, none⟩) n n] rfl (r0.2 _) (by simp [E50, ON, E51]) (callGSum _ _) ?_
            refine Calls.mono (HCC.out wx hC.put.but) ?_
            rintro e w2 ⟨rfl, hbut2⟩
            exact ⟨rfl, hC.then hbut2⟩
          | 3 =>
            simp only [List.getElem?_toArray, List.getElem?_cons_succ, List.getElem?_cons_zero, Option.some.injEq] at ho
            subst ho
            obtain rfl := Option.some.inj hu
            go_simp
          | 4 =>
            simp only [List.getElem?_toArray, List.getElem?_cons_succ, List.getElem?_cons_zero, Option.some.injEq] at ho
            subst ho
            obtain rfl := Option.some.inj hu
            go_simp
          | 5 => cases hu
          | 6 => cases hu
          | 7 => cases hu
          | 8 => cases hu
          | 9 => cases hu
          | j + 10 => cases hu
        · intro j o d f a wx ho hu hdi hsh hw hC hsee
          match j with
          | 5 =>
            simp only [List.getElem?_toArray, List.getElem?_cons_succ, List.getElem?_cons_zero, Option.some.injEq] at ho
            subst ho
            have e54 := hsee.tab 4 54 _ (by kernel_rfl) (by kernel_rfl) rfl
            have hd6 : d 6 = false := by
              cases hq : d 6 with
              | false => rfl
              | true => have hh := hsh 6 _ 5 rfl (by kernel_rfl) hq; rw [hdi] at hh; cases hh
            have hd7 : d 7 = false := by
              cases hq : d 7 with
              | false => rfl
              | true => have hh := hsh 7 _ 6 rfl (by kernel_rfl) hq; rw [hd6] at hh; cases hh
            refine op_value (.slice (some ⟨wx.heap.size, 0, none⟩) n n) (w' := wx.alloc (.cells M 5)) ?_ ?_
            · unfold execOp
              simp only [e54, Sem.run_bind, hmk wx, Result.andThen_ok, Sem.run_pure]
            · refine ⟨_, rfl, ?_⟩
              have h2 := hC.then ((But.refl (fun _ => False) wx).alloc (.cells M 5))
              refine ⟨h2.put.keep _ (by decide) (by decide), fun _ _ => ⟨wx.heap.size, upd_same _ _ _, by rw [HM.out]; exact Blk.new rfl⟩, fun e => ?_, fun e => ?_⟩
              · rw [upd_other d true (by decide), hd6] at e; cases e
              · rw [upd_other d true (by decide), hd7] at e; cases e
          | 6 =>
            simp only [List.getElem?_toArray, List.getElem?_cons_succ, List.getElem?_cons_zero, Option.some.injEq] at ho
            subst ho
            have e53 := hsee.tab 3 53 _ (by kernel_rfl) (by kernel_rfl) rfl
            have hd5 := hw 5 (by kernel_rfl)
            obtain ⟨gz, e5, hbz⟩ := hC.row hd5 hdi
            have e55 := (hsee.dep 5 55 (by kernel_rfl) (by kernel_rfl)).trans e5
            have hd7 : d 7 = false := by
              cases hq : d 7 with
              | false => rfl
              | true => have hh := hsh 7 _ 6 rfl (by kernel_rfl) hq; rw [hdi] at hh; cases hh
            refine op_call 16 [_, _, _] _ #[.pointer (some ⟨gk, 0, none⟩), .slice none 0 0, .slice (some ⟨gz, 0, none⟩) n n] rfl (by show #[a.eval (.tmp 53), .slice none 0 0, a.eval (.tmp 55)] = _; rw [e53, e55]) (callGSum _ _) ((HCD.out wx gz hC.put.but hbz).mono ?_)
            rintro e w2 ⟨rfl, hb2⟩
            refine ⟨_, rfl, _, rfl, ?_⟩
            have h2 := hC.then hb2
            refine ⟨h2.put.keep _ (by decide) (by decide), fun _ e => ?_, fun _ => upd_same _ _ _, fun e => ?_⟩
            · rw [upd_same] at e; cases e
            · rw [upd_other d true (by decide), hd7] at e; cases e
          | 7 =>
            simp only [List.getElem?_toArray, List.getElem?_cons_succ, List.getElem?_cons_zero, Option.some.injEq] at ho
            subst ho
            have e52 := hsee.tab 2 52 _ (by kernel_rfl) (by kernel_rfl) rfl
            have hd6 := hw 6 (by kernel_rfl)
            have e56 := (hsee.dep 6 56 (by kernel_rfl) (by kernel_rfl)).trans (hC.v6 hd6)
            refine op_call 12 [_, _] _ #[.agg S3, .agg S4] rfl (by show #[a.eval (.tmp 52), a.eval (.tmp 56)] = _; rw [e52, e56]) (callGAdd _ _) ((HCY.out wx).mono ?_)
            rintro e w2 ⟨rfl, hb2⟩
            refine ⟨_, rfl, _, rfl, ?_⟩
            have h2 := hC.then hb2
            refine ⟨h2.put.keep _ (by decide) (by decide), fun _ e => ?_, fun _ => ?_, fun _ => upd_same _ _ _⟩
            · rw [upd_other d true (by decide), hd6] at e; cases e
            · rw [upd_other f _ (by decide)]; exact hC.v6 hd6
          | 8 =>
            simp only [List.getElem?_toArray, List.getElem?_cons_succ, List.getElem?_cons_zero, Option.some.injEq] at ho
            subst ho
            have hd9 : d 9 = false := by
              cases hq : d 9 with
              | false => rfl
              | true => have hh := hsh 9 _ 8 rfl (by kernel_rfl) hq; rw [hdi] at hh; cases hh
            refine op_alloc 22 Z rfl (hz wx) ?_
            refine ⟨_, rfl, ?_⟩
            have h2 := hC.then ((But.refl (fun _ => False) wx).alloc (.cells Z 22))
            refine ⟨hC.put.made hd9 (by decide) Z HZ.out, ?_, ?_, ?_⟩
            · rw [upd_other d true (by decide), upd_other d true (by decide), upd_other f _ (by decide)]; exact h2.row
            · rw [upd_other d true (by decide), upd_other f _ (by decide)]; exact h2.v6
            · rw [upd_other d true (by decide), upd_other f _ (by decide)]; exact h2.v7
          | 9 =>
            simp only [List.getElem?_toArray, List.getElem?_cons_succ, List.getElem?_cons_zero, Option.some.injEq] at ho
            subst ho
            have hd8 := hw 8 (by kernel_rfl)
            have hd7 := hw 7 (by kernel_rfl)
            have hd6 : d 6 = true := hsh 7 _ 6 rfl (by kernel_rfl) hd7
            obtain ⟨gy, e8, hgy, hb1, -⟩ := hC.put.al hd8
            have e57 := (hsee.dep 7 57 (by kernel_rfl) (by kernel_rfl)).trans (hC.v7 hd7)
            have e12 := (hsee.dep 8 12 (by kernel_rfl) (by kernel_rfl)).trans e8
            refine op_store_u8s i16g _ _ rfl gy (nts x2) HX2N.out e12 (by rw [e57, HX2E.out]) _ (by simp [u8s]) (hb1 hdi) ?_
            intro w' hb' hbut'
            refine ⟨undef, rfl, hC.put.put (by decide) e8 hgy hb' hbut' _, fun _ e => ?_, fun _ => ?_, fun _ => ?_⟩
            · rw [upd_other d true (by decide), hd6] at e; cases e
            · rw [upd_other f _ (by decide)]; exact hC.v6 hd6
            · rw [upd_other f _ (by decide)]; exact hC.v7 hd7
          | 0 => cases hu
          | 1 => cases hu
          | 2 => cases hu
          | 3 => cases hu
          | 4 => cases hu
          | j + 10 => cases ho
        · intro f w7 hC hval
          obtain ⟨gy, e8, hgy, -, hby⟩ := hC.put.al rfl
          have HBY := Hid.mk' (hby rfl)
          have HBX7 := Hid.mk' (HBX.out.but hC.put.but (fun h => h))
          have HT7 := Hid.mk' (HT6.out.trans hC.put.but)
          have v0 := hval 0 _ (by decide) rfl
          have v1 := hval 1 _ (by decide) rfl
          have v2 := hval 2 _ (by decide) rfl
          have v3 := hval 3 _ (by decide) rfl
          have v4 := hval 4 _ (by decide) rfl
          have hv6 := hC.v6 rfl
          have hv7 := hC.v7 rfl
          clear hC hval hgy hby
          simp only [putL, e8, hv6, hv7, v0, v1, v2, v3, v4]
          generalize f 5 = v5
          clear e8 hv6 hv7 v0 v1 v2 v3 v4
          have HXN1 := Hid.mk' (HXN.out)
          have HADD : Hid (Calls Try.prog 12 #[.agg X1, .agg X2] w7 fun e w'' => e = .returned (.agg Z) ∧ But (fun _ => False) w7 w'') := by
            have h1 := rgadd_any (w := w7) (a := x1) (b := x2) (by rw [HX1.out]; exact gadd_len _ _) (by rw [HX2.out]; exact gadd_len _ _)
            have e1 : gadd x1 x2 = gzero := by
              rw [HX1.out, HX2.out, HS1.out, HS2.out, HS3.out, HS4.out]
              exact adds_zero h xs ys n (by rw [← HA.out]; exact hnA) (by rw [← HD.out]; exact hnD)
            rw [e1, ← HXE.out, ← HX2E.out, show (u8s (nts gzero)).toArray = Z by rw [HZ.out]; rfl] at h1
            exact h1
          have HEZ : Hid (∀ w', (Op.equalIn 10000 22 (.agg Z) (.agg Z)).run Try.prog w' = .ok true w') := by
            intro w'
            have h1 := equal16 gzero gzero gzero_len gzero_len w'
            rw [show (u8s (nts gzero)).toArray = Z by rw [HZ.out]; rfl] at h1
            rw [h1]; simp
          go_upto_region 10 with fail
          refine act_letter ?_
          intro K hK; go_simp; refine hK _ ?_; clear hK K
          go_wp2_with (first
            | (refine wpList_load_u8s Try.underlying22 i16g rfl _ rfl gx (nts x1) HXN.out rfl HBX7.out ?_; rw [← HXE.out])
            | (refine wpList_load_u8s Try.underlying22 i16g rfl _ rfl gy (nts x2) HX2N.out rfl HBY.out ?_; rw [← HX2E.out])
            | fail)
          refine Calls.mono HADD.out ?_
          rintro e w8 ⟨rfl, hb8⟩
          have e8 := HEZ.out w8
          have HT8 := Hid.mk' (HT7.out.trans hb8)
          clear hb8
          go_wp2_with fail
          refine Calls.mono (gawake_any _) ?_
          rintro e w9 ⟨rfl, hb9⟩
          have HT9 := Hid.mk' (HT8.out.trans hb9)
          clear hb9 e8
          go_wp2
          go_ret
          exact ⟨rfl, HT9.out.below (Nat.le_refl _) (fun _ _ h => h)⟩

set_option maxRecDepth 100000 in
theorem ghashAdds_lifted (os : Os) (started : os.Started) (H : Type) (enc : TypeId × Value → H) :
    ReturnsInHanded {} Try.checked os 6 .any (Rows.ghashAddsSpec.pre6 enc Try.prog Try.f6 Rows.ghashAddsRow.domain false) (Rows.ghashAddsSpec.post enc Try.prog Try.f6 false true false false) := by
  refine returnsInHanded_of_change_sized (C := Try.checked) (by kernel_rfl) started (by kernel_rfl) Try.func6
    (ChangeSpec.witness6 (enc := enc) (C := Try.checked) false ⟨#[], #[.agg #[.int .u8 0, .int .u8 0, .int .u8 0, .int .u8 0, .int .u8 0, .int .u8 0, .int .u8 0, .int .u8 0, .int .u8 0, .int .u8 0, .int .u8 0, .int .u8 0, .int .u8 0, .int .u8 0, .int .u8 0, .int .u8 0], .slice none 0 0, .slice none 0 0], []⟩ 8 (by kernel_rfl) (by kernel_rfl) (by kernel_rfl) (by kernel_rfl)) ?_
  intro W base args ds gs before hval0 hW hcnd hsz0 _
  have hsz : (DataW.weightsEach Try.prog (Try.f6.params.toList ++ Rows.ghashAddsSpec.plain.varTypes Try.prog) (ds ++ gs)).all (· ≤ reachBytes) = true := hsz0
  clear hsz0
  have hval : ∀ (j : Nat) t v, Try.f6.params[j]? = some t → args[j]? = some v → Value.okWide Try.prog W .any base t v := hval0
  have hW' := hW
  obtain ⟨p, q, hA0, hV, rfl, hfz, hnd⟩ := hW
  have hA : DataW.TrodAll enc Try.prog W 0 (fun _ => true) true Try.f6.params.toList args.toList ds p := hA0
  rw [Try.params6] at hA hval hsz
  obtain ⟨v0, vs0, d0, ds0, p0, q0, hargs, rfl, rfl, h0, r0⟩ := trodAll_cons hA
  obtain ⟨v1, vs1, d1, ds1, p1, q1, rfl, rfl, rfl, h1, r1⟩ := trodAll_cons r0
  obtain ⟨v2, vs2, d2, ds2, p2, q2, rfl, rfl, rfl, h2, r2⟩ := trodAll_cons r1
  obtain ⟨rfl, rfl, rfl⟩ := trodAll_nil r2
  obtain rfl : args = #[v0, v1, v2] := by cases args; simp_all
  obtain ⟨rfl, rfl⟩ := trodVars_none hV
  have lt0 : ∀ x ∈ p0, x.block < W.heap.size := by obtain ⟨m, hm⟩ := h0; exact DataW.trod_lt m _ _ _ hm
  obtain ⟨z0, w0⟩ := view_arr Try.underlying22 Try.underlying5 (by kernel_rfl) (by kernel_rfl) (hval 0 22 v0 rfl rfl) h0 lt0 hsz (j := 0) rfl rfl
  have lt1 : ∀ x ∈ p1, x.block < W.heap.size := by obtain ⟨m, hm⟩ := h1; exact DataW.trod_lt m _ _ _ hm
  obtain ⟨z1, w1⟩ := view_bytes Try.underlying27 Try.underlying5 (by kernel_rfl) (by kernel_rfl) (hval 1 27 v1 rfl rfl) h1 lt1 hsz (j := 1) rfl rfl
  have lt2 : ∀ x ∈ p2, x.block < W.heap.size := by obtain ⟨m, hm⟩ := h2; exact DataW.trod_lt m _ _ _ hm
  obtain ⟨z2, w2⟩ := view_bytes Try.underlying27 Try.underlying5 (by kernel_rfl) (by kernel_rfl) (hval 2 27 v2 rfl rfl) h2 lt2 hsz (j := 2) rfl rfl
  clear hA0 hval0
  refine (ghashAdds_walk v0 z0 v1 z1 v2 z2 W w0 w1 w2).mono fun e W' ⟨he, bel⟩ => ?_
  subst he
  exact ⟨_, rfl, _, _, _, [], _, [], hW', trodAll_mk1 (shut_bool Try.underlying4 _), (trodAll_cons_mk (Below.trod (by kernel_rfl) (by kernel_rfl) (of_decide_eq_true (by kernel_rfl)) h0 bel lt0) (trodAll_cons_mk (Below.trod (by kernel_rfl) (by kernel_rfl) (of_decide_eq_true (by kernel_rfl)) h1 bel lt1) (trodAll_cons_mk (Below.trod (by kernel_rfl) (by kernel_rfl) (of_decide_eq_true (by kernel_rfl)) h2 bel lt2) trodAll_mk0))), rfl, bel.frame _, fun h => by cases h⟩

theorem ghashAdds_holds : Rows.GhashAddsSaid :=
  OpenClaim.holds_of_wide 6 Try.f6 rfl rfl rfl rfl rfl rfl rfl ⟨rfl, rfl, rfl, rfl, rfl⟩ rfl rfl rfl rfl rfl (by kernel_rfl) Try.func6 (by kernel_rfl)
    (of_decide_eq_true (by kernel_rfl)) (by unfold Func.isWrapper; first | (rw [if_pos (by decide +kernel)]; kernel_rfl) | (rw [if_neg (by decide +kernel)]; exact ⟨rfl, rfl⟩))
    (fun os started H enc _ => ghashAdds_lifted os started H enc)
#print axioms ghashAdds_holds
end Go.Proofs.Ytpdkdeebdhdhgaa
