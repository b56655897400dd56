/- A state's columns put one by one; the program's stateOf and block. -/
import Derived.Test.YtdlalpklopnpjaaAesTurn
import Derived.Deep.Cut
namespace Go.Proofs.Ytdlalpklopnpjaa
open Go.RowKit

def setCol (s : List B8) (k : Nat) (c : List B8) : List B8 := s.take (4 * k) ++ c ++ s.drop (4 * k + 4)
theorem setCol_len {s : List B8} {k : Nat} {c : List B8} (hs : s.length = 16) (hc : c.length = 4) (hk : k < 4) : (setCol s k c).length = 16 := by
  unfold setCol; simp [hs, hc]; omega
theorem setCol_at {s : List B8} {k : Nat} {c : List B8} (hs : s.length = 16) (hc : c.length = 4) (hk : k < 4) (i : Nat) (_hi : i < 16) : at8 (setCol s k c) i = if i / 4 = k then at8 c (i % 4) else at8 s i := by
  have h1 : (s.take (4 * k)).length = 4 * k := by rw [List.length_take]; omega
  unfold setCol at8 List.getD
  by_cases h : i / 4 = k
  · rw [if_pos h, List.getElem?_append_left (by rw [List.length_append, h1, hc]; omega), List.getElem?_append_right (by omega), h1, show i - 4 * k = i % 4 by omega]
  · rw [if_neg h]
    by_cases h2 : i < 4 * k
    · rw [List.append_assoc, List.getElem?_append_left (by omega), List.getElem?_take, if_pos h2]
    · rw [List.getElem?_append_right (by rw [List.length_append, h1, hc]; omega), List.length_append, h1, hc, List.getElem?_drop, show 4 * k + 4 + (i - (4 * k + 4)) = i by omega]
/-- The first k columns as F tells them. -/
def colsTo (F : Nat → List B8) (s : List B8) (k : Nat) : List B8 := mk16 fun i => if i / 4 < k then at8 (F (i / 4)) (i % 4) else at8 s i
def cols (F : Nat → List B8) : List B8 := mk16 fun i => at8 (F (i / 4)) (i % 4)
theorem colsTo_len (F : Nat → List B8) (s : List B8) (k : Nat) : (colsTo F s k).length = 16 := mk16_len _
theorem cols_len (F : Nat → List B8) : (cols F).length = 16 := mk16_len _
theorem colsTo_zero (F : Nat → List B8) {s : List B8} (hs : s.length = 16) : colsTo F s 0 = s := by
  refine at8_ext (colsTo_len _ _ _) hs (fun i hi => ?_)
  unfold colsTo
  rw [mk16_at _ i hi, if_neg (Nat.not_lt_zero _)]
theorem colsTo_all (F : Nat → List B8) (s : List B8) : colsTo F s 4 = cols F := by
  refine at8_ext (colsTo_len _ _ _) (cols_len _) (fun i hi => ?_)
  unfold colsTo cols
  rw [mk16_at _ i hi, mk16_at _ i hi, if_pos (by omega)]
theorem colsTo_set {F : Nat → List B8} (s : List B8) (k : Nat) (hk : k < 4) (hF : (F k).length = 4) : setCol (colsTo F s k) k (F k) = colsTo F s (k + 1) := by
  refine at8_ext (setCol_len (colsTo_len _ _ _) hF hk) (colsTo_len _ _ _) (fun i hi => ?_)
  rw [setCol_at (colsTo_len _ _ _) hF hk i hi]
  unfold colsTo
  rw [mk16_at _ i hi, mk16_at _ i hi]
  by_cases h : i / 4 = k
  · rw [if_pos h, if_pos (by omega), h]
  · rw [if_neg h]
    by_cases h2 : i / 4 < k
    · rw [if_pos h2, if_pos (by omega)]
    · rw [if_neg h2, if_neg (by omega)]
theorem colsTo_word (F : Nat → List B8) (s : List B8) (k : Nat) (hk : k < 4) : wordOf (colsTo F s k) k = wordOf s k := by
  have e : ∀ r, r < 4 → at8 (colsTo F s k) (4 * k + r) = at8 s (4 * k + r) := by
    intro r hr
    unfold colsTo
    rw [mk16_at _ _ (by omega), if_neg (by omega)]
  unfold wordOf
  rw [e 1 (by decide), e 2 (by decide), e 3 (by decide), show at8 (colsTo F s k) (4 * k) = at8 s (4 * k) from e 0 (by decide)]
theorem cols_word (F : Nat → List B8) (k : Nat) (hk : k < 4) (hF : (F k).length = 4) : wordOf (cols F) k = F k := by
  have e : ∀ r, r < 4 → at8 (cols F) (4 * k + r) = at8 (F k) r := by
    intro r hr
    unfold cols
    rw [mk16_at _ _ (by omega), show (4 * k + r) / 4 = k by omega, show (4 * k + r) % 4 = r by omega]
  unfold wordOf
  rw [e 1 (by decide), e 2 (by decide), e 3 (by decide), show at8 (cols F) (4 * k) = at8 (F k) 0 from e 0 (by decide)]
  exact four_eta hF
theorem cols_own {s : List B8} (hs : s.length = 16) : cols (wordOf s) = s := by
  refine at8_ext (cols_len _) hs (fun i hi => ?_)
  unfold cols
  rw [mk16_at _ i hi]
  obtain ⟨q, r, hr, e⟩ : ∃ q r, r < 4 ∧ i = 4 * q + r := ⟨i / 4, i % 4, by omega, by omega⟩
  rw [show i / 4 = q by omega, show i % 4 = r by omega, e]
  match r, hr with
  | 0, _ => rfl
  | 1, _ => rfl
  | 2, _ => rfl
  | 3, _ => rfl
theorem word_len (s : List B8) (k : Nat) : (wordOf s k).length = 4 := rfl
theorem u8s_app (a b : List Nat) : u8s (a ++ b) = u8s a ++ u8s b := by simp [u8s]
theorem nts_app (a b : List B8) : nts (a ++ b) = nts a ++ nts b := by simp [nts]
theorem split_col (s : List B8) (k : Nat) : s = s.take (4 * k) ++ (s.drop (4 * k)).take 4 ++ s.drop (4 * k + 4) := by
  rw [List.append_assoc, ← List.drop_drop, List.take_append_drop, List.take_append_drop]
/-- A column into a state. -/
theorem wpList_store_col {w : World} {ops : Array Oper} {rest : List Oper} {o : Oper} {a : Act} {Q : Exit → Act → World → Prop} (hgd : o.guard = none) (x y : Operand) (ho : o.op = .store 55 x y)
    (g off k : Nat) (T : TypeId) (s c : List B8) (hs : s.length = 16) (hc : c.length = 4) (hk : k < 4) (hoff : off = 4 * k) (hx : a.eval x = .pointer (some ⟨g, off, none⟩)) (hy : a.eval y = .agg (u8s (nts c)).toArray) (hb : Blk w g T (u8s (nts s)))
    (h : ∀ w', Blk w' g T (u8s (nts (setCol s k c))) → But (· = g) w w' → wpList Try.prog ops Q rest (a.put o.dst undef) w') : wpList Try.prog ops Q (o :: rest) a w := by
  have hsp := split_col s k
  rw [hsp, nts_app, nts_app, u8s_app, u8s_app] at hb
  refine wpList_store_at hgd 55 x y ho g off (u8s (nts c)) hx hy T _ _ _ hb (by unfold u8s; rw [List.length_map, nts_len, List.length_take]; omega) (by unfold u8s; rw [List.length_map, nts_len, List.length_map, nts_len, List.length_take, List.length_drop]; omega) (by rw [i55, u4l c hc]) (u8s_one _) ?_
  intro w' hb' hb2
  refine h w' ?_ hb2
  unfold setCol
  rw [nts_app, nts_app, u8s_app, u8s_app]
  exact hb'
theorem col_cells {w : World} {g : Nat} {T : TypeId} {s : List B8} (hb : Blk w g T (u8s (nts s))) (off k : Nat) (hs : 4 * k + 4 ≤ s.length) (hoff : off = 4 * k) :
    ∀ j v, (u8s (nts (wordOf s k)))[j]? = some v → w.cell? ((⟨g, off, none⟩ : Addr).add j) = some v := by
  intro j v hv
  have hj : j < 4 := by
    have := (List.getElem?_eq_some_iff.1 hv).1
    rwa [u4l _ (word_len s k)] at this
  have e : (⟨g, off, none⟩ : Addr).add j = ⟨g, 4 * k + j, none⟩ := by simp [Addr.add, hoff]
  rw [e, blk_nts hb (4 * k + j) (by omega), ← hv]
  match j, hj with
  | 0, _ => rfl
  | 1, _ => rfl
  | 2, _ => rfl
  | 3, _ => rfl
/-- A column out of a row of bytes. -/
theorem wpList_load_col {w : World} {ops : Array Oper} {rest : List Oper} {o : Oper} {a : Act} {Q : Exit → Act → World → Prop} (hgd : o.guard = none) (x : Operand) (ho : o.op = .load 55 x)
    (g off k : Nat) (T : TypeId) (s : List B8) (hs : 4 * k + 4 ≤ s.length) (hoff : off = 4 * k) (hx : a.eval x = .pointer (some ⟨g, off, none⟩)) (hb : Blk w g T (u8s (nts s)))
    (h : wpList Try.prog ops Q rest (a.put o.dst (.agg (u8s (nts (wordOf s k))).toArray)) w) : wpList Try.prog ops Q (o :: rest) a w :=
  wpList_load_cells hgd _ x ho ⟨g, off, none⟩ hx (u8s (nts (wordOf s k))) _ (col_cells hb off k hs hoff) Try.underlying55 rfl (by rw [i55, u4l _ (word_len s k)]) h
theorem slice_col (w : World) (g k : Nat) (hk : k < 4) : Sem.run Try.prog (Instr.sliceAt 23 (.pointer (some ⟨g, 0, none⟩)) (some (.int .i64 (4 * (k : Int)))) (some (.int .i64 (4 * ((k : Int) + 1)))) none) w = .ok (.slice (some ⟨g, 4 * k, none⟩) 4 (16 - 4 * k)) w := by
  have h : k = 0 ∨ k = 1 ∨ k = 2 ∨ k = 3 := by omega
  rcases h with h | h | h | h <;> subst h
  · exact rfl
  · exact rfl
  · exact rfl
  · exact rfl
theorem arr_col (w : World) (a : Addr) (c : Nat) : Sem.run Try.prog (Instr.arrayAt 55 (.slice (some a) 4 c)) w = .ok (.pointer (some a)) w := rfl
theorem zero16 (w : World) : (zeroValue 23).run Try.prog w = .ok (.agg (u8s (List.replicate 16 0)).toArray) w := by kernel_rfl
theorem i23 : (Try.prog.info? 23).map (·.size) = some 16 := by kernel_rfl
/-- What memory is amid stateOf and block. -/
structure PutI (w : World) (g : Nat) (TS TD : TypeId) (s t : List B8) (wr : World) : Prop where
  src : Blk wr g TS (u8s (nts s))
  res : Blk wr (g + 1) TD (u8s (List.replicate 16 0))
  dst : Blk wr (g + 2) TD (u8s (nts t))
  but : But (fun _ => False) w wr
theorem colsTo_zero' {s : List B8} : colsTo (wordOf s) (List.replicate 16 0) 0 = List.replicate 16 0 := colsTo_zero _ (by simp)
set_option maxRecDepth 100000 in
set_option maxHeartbeats 1000000 in
theorem stateOf_any {w : World} {s : List B8} (hs : s.length = 16) :
    Calls Try.prog 27 #[.agg (u8s (nts s)).toArray] w fun e w' => e = .returned (.agg (u8s (nts s)).toArray) ∧ But (fun _ => False) w w' := by
  have hz := zeroS
  obtain ⟨Z, hZ⟩ : ∃ Z, Z = (u8s (List.replicate 16 0)).toArray := ⟨_, rfl⟩
  rw [← hZ] at hz
  obtain ⟨C, hC⟩ : ∃ C, C = (u8s (nts s)).toArray := ⟨_, rfl⟩
  rw [← hC]
  have HZ := Hid.mk' hZ
  have HC := Hid.mk' hC
  clear hZ hC
  go_enter Try.func27, Try.ntmps27
  go_wp2
  obtain ⟨g, hg⟩ : ∃ g, g = w.heap.size := ⟨_, rfl⟩
  have hI : PutI w g 23 57 s (colsTo (wordOf s) (List.replicate 16 0) 0) (((w.alloc (.cells C 23)).alloc (.cells Z 57)).alloc (.cells Z 57)) := by
    rw [HC.out, HZ.out, colsTo_zero']
    have al : ∀ (x : World) (o : Obj), But (fun _ => False) x (x.alloc o) := fun x o => (But.refl _ x).alloc o
    exact ⟨((Blk.new hg.symm).but (al _ _) (fun h => h)).but (al _ _) (fun h => h), (Blk.new (by simp [hg])).but (al _ _) (fun h => h), by rw [nts_rep]; exact Blk.new (by simp [hg]), (((But.refl _ w).alloc _).alloc _).alloc _⟩
  rw [← hg, show g + 1 + 1 = g + 2 from rfl]
  generalize (((w.alloc (.cells C 23)).alloc (.cells Z 57)).alloc (.cells Z 57)) = W0 at *
  have HI := Hid.mk' hI
  have HG := Hid.mk' hg
  clear hI hg hz HZ
  go_loopw [5] (fun i wr => ∃ k : Nat, k ≤ 4 ∧ i = .int .i64 k ∧ PutI w g 23 57 s (colsTo (wordOf s) (List.replicate 16 0) k) wr) (fun i _ => 4 - (intOf i).toNat)
  case atStart => exact ⟨0, by decide, rfl, HI.out⟩
  case round =>
    obtain ⟨k, hk, rfl, hI⟩ := hrel
    obtain ⟨M, hM⟩ : ∃ M, M = colsTo (wordOf s) (List.replicate 16 0) k := ⟨_, rfl⟩
    have HML : Hid (M.length = 16) := by show _ = _; rw [hM, colsTo_len]
    rw [← hM] at hI
    have HM := Hid.mk' hM
    have HI2 := Hid.mk' hI
    clear hI HI hM
    by_cases hlt : k < 4
    · have hki : (k : Int) < 4 := by omega
      have hsl := slice_col wr g k hlt
      have hac := arr_col wr ⟨g, 4 * k, none⟩ (16 - 4 * k)
      go_wp2_with (first
        | (refine wpList_load_col rfl _ rfl g (4 * k) k 23 s (by omega) rfl (by rfl) HI2.out.src ?_)
        | (refine wpList_store_col rfl _ _ rfl (g + 2) (k * 4) k 57 M (wordOf s k) HML.out (word_len s k) hlt (by omega) (by rfl) (by rfl) HI2.out.dst ?_; intro w2 hb2 hbut2))
      refine ⟨⟨k + 1, by omega, by go_num, ?_⟩, by simp [intOf]; omega⟩
      have h := HI2.out
      refine ⟨h.src.but hbut2 (show ¬ (g = g + 2) by omega), h.res.but hbut2 (show ¬ (g + 1 = g + 2) by omega), ?_, h.but.then hbut2 (fun i hi e => by have := HG.out; omega)⟩
      rw [← colsTo_set _ k hlt (word_len s k), ← HM.out]
      exact hb2
    · have hk4 : k = 4 := by omega
      subst hk4
      have HMS : Hid (M = s) := by show _ = _; rw [HM.out, colsTo_all, cols_own hs]
      rw [HMS.out] at HI2
      have HNL : Hid ((nts s).length = 16) := by show _ = _; rw [nts_len]; exact hs
      clear HM HMS HML hs
      go_wp2_with (first
        | (refine wpList_load_u8s Try.underlying57 i57 rfl _ rfl (g + 2) (nts s) HNL.out rfl HI2.out.dst ?_)
        | (refine wpList_store_u8s i57 rfl _ _ rfl (g + 1) (nts s) HNL.out rfl (by exact rfl) _ (by simp [u8s]) HI2.out.res ?_; intro w2 hb2 hbut2))
      refine bodyPost_ret (results_cell_row rfl _ _ (g + 1) _ _ _ _ rfl hb2 Try.underlying57 rfl (by rw [i57]; simp [u8s, HNL.out])) rfl ⟨by rw [HC.out], ?_⟩
      exact HI2.out.but.then hbut2 (fun i hi e => by have := HG.out; omega)
theorem copy_col {w : World} {g gc k : Nat} {T TC : TypeId} {s c : List B8} (ty : TypeId) (hb : Blk w g T (u8s (nts s))) (hs : s.length = 16) (hk : k < 4) (hcb : Blk w gc TC (u8s (nts c))) (hc : c.length = 4) :
    ∃ w', (Builtin.copy_ #[22, 22] ty #[.slice (some ⟨g, 4 * k, none⟩) (16 - 4 * k) (16 - 4 * k), .slice (some ⟨gc, 0, none⟩) 4 4]).run Try.prog w = .ok (.int .i64 4) w' ∧ Blk w' g T (u8s (nts (setCol s k c))) ∧ But (· = g) w w' := by
  have hsz : (Try.prog.info? 5).map (·.size) = some 1 := by kernel_rfl
  have hl := u4l c hc
  have hsp := split_col s k
  have hb0 := hb
  rw [hsp, nts_app, nts_app, u8s_app, u8s_app] at hb
  have hA : (u8s (nts (s.take (4 * k)))).length = 4 * k := by unfold u8s; rw [List.length_map, nts_len, List.length_take]; omega
  have hO : (u8s (nts ((s.drop (4 * k)).take 4))).length = 4 := by unfold u8s; rw [List.length_map, nts_len, List.length_take, List.length_drop]; omega
  have hr := run_copy_row (P := Try.prog) w 22 22 ty 5 g (4 * k) (16 - 4 * k) (16 - 4 * k) ⟨gc, 0, none⟩ 4 4 _ T (u8s (nts c)) Try.underlying22 hsz hb (by rw [hl]; simp [Nat.min_def]; omega)
    (by
      intro j v hv
      have e : (⟨gc, 0, none⟩ : Addr).add j = ⟨gc, j, none⟩ := by simp [Addr.add]; exact fun h => h.symm
      rw [e, hcb.cell]; exact hv) (by rw [hl]; simp [hA, hO]) (u8s_one _)
  rw [hl] at hr
  refine ⟨_, hr, ?_, (But.refl (· = g) w).setRow (fun _ => rfl) _⟩
  have e : ∀ A O B : List Value, A.length = 4 * k → O.length = 4 → (A ++ O ++ B).toArray.toList.take (4 * k) ++ u8s (nts c) ++ (A ++ O ++ B).toArray.toList.drop (4 * k + 4) = A ++ u8s (nts c) ++ B := by
    intro A O B hA hO
    rw [← hA, ← hO]
    simp [List.drop_append]
  rw [e _ _ _ hA hO]
  unfold setCol
  rw [nts_app, nts_app, u8s_app, u8s_app]
  exact hb.row _
theorem index_col (w : World) (s : List B8) (hs : s.length = 16) (k : Nat) (hk : k < 4) : Sem.run Try.prog (Instr.index 57 (.agg (u8s (nts s)).toArray) (.int .i64 (k : Int))) w = .ok (.agg (u8s (nts (wordOf s k))).toArray) w := by
  have h : k = 0 ∨ k = 1 ∨ k = 2 ∨ k = 3 := by omega
  match s, hs with
  | [a0, a1, a2, a3, a4, a5, a6, a7, a8, a9, a10, a11, a12, a13, a14, a15], _ =>
    rcases h with h | h | h | h <;> subst h
    · exact rfl
    · exact rfl
    · exact rfl
    · exact rfl
theorem slice_from (w : World) (g k : Nat) (hk : k < 4) : Sem.run Try.prog (Instr.sliceAt 23 (.pointer (some ⟨g, 0, none⟩)) (some (.int .i64 (4 * (k : Int)))) none none) w = .ok (.slice (some ⟨g, 4 * k, none⟩) (16 - 4 * k) (16 - 4 * k)) w := by
  have h : k = 0 ∨ k = 1 ∨ k = 2 ∨ k = 3 := by omega
  rcases h with h | h | h | h <;> subst h
  · exact rfl
  · exact rfl
  · exact rfl
  · exact rfl
set_option maxRecDepth 100000 in
set_option maxHeartbeats 1000000 in
theorem blockOf_any {w : World} {s : List B8} (hs : s.length = 16) :
    Calls Try.prog 31 #[.agg (u8s (nts s)).toArray] w fun e w' => e = .returned (.agg (u8s (nts s)).toArray) ∧ But (fun _ => False) w w' := by
  have hz := zero16
  obtain ⟨Z, hZ⟩ : ∃ Z, Z = (u8s (List.replicate 16 0)).toArray := ⟨_, rfl⟩
  rw [← hZ] at hz
  obtain ⟨C, hC⟩ : ∃ C, C = (u8s (nts s)).toArray := ⟨_, rfl⟩
  rw [← hC]
  have HZ := Hid.mk' hZ
  have HC := Hid.mk' hC
  clear hZ hC
  obtain ⟨g, hg⟩ : ∃ g, g = w.heap.size := ⟨_, rfl⟩
  obtain ⟨W0, hW0⟩ : ∃ W0, W0 = (((w.alloc (.cells C 57)).alloc (.cells Z 23)).alloc (.cells Z 23)) := ⟨_, rfl⟩
  have hI : PutI w g 57 23 s (colsTo (wordOf s) (List.replicate 16 0) 0) W0 := by
    rw [hW0, HC.out, HZ.out, colsTo_zero']
    have al : ∀ (x : World) (o : Obj), But (fun _ => False) x (x.alloc o) := fun x o => (But.refl _ x).alloc o
    exact ⟨((Blk.new hg.symm).but (al _ _) (fun h => h)).but (al _ _) (fun h => h), (Blk.new (by simp [hg])).but (al _ _) (fun h => h), by rw [nts_rep]; exact Blk.new (by simp [hg]), (((But.refl _ w).alloc _).alloc _).alloc _⟩
  have HI := Hid.mk' hI
  have HG := Hid.mk' hg
  have HW0 := Hid.mk' hW0
  have HNL : Hid ((nts s).length = 16) := by show _ = _; rw [nts_len]; exact hs
  have HS0 : Hid (Blk (((w.alloc (.cells C 57)).alloc (.cells Z 23)).alloc (.cells Z 23)) w.heap.size 57 (u8s (nts s))) := by show Blk _ _ _ _; rw [← hW0, ← hg]; exact hI.src
  clear hI hg hW0 HZ
  go_enter Try.func31, Try.ntmps31
  go_wp2_with (refine wpList_load_u8s Try.underlying57 i57 rfl _ rfl w.heap.size (nts s) HNL.out rfl HS0.out ?_)
  rw [← HW0.out, ← HG.out, show g + 1 + 1 = g + 2 from rfl]
  clear HW0 HS0 hz
  go_loopw [7] (fun i wr => ∃ k : Nat, k ≤ 4 ∧ i = .int .i64 k ∧ PutI w g 57 23 s (colsTo (wordOf s) (List.replicate 16 0) k) wr) (fun i _ => 4 - (intOf i).toNat)
  case atStart => exact ⟨0, by decide, rfl, HI.out⟩
  case round =>
    obtain ⟨k, hk, rfl, hI⟩ := hrel
    obtain ⟨M, hM⟩ : ∃ M, M = colsTo (wordOf s) (List.replicate 16 0) k := ⟨_, rfl⟩
    have HML : Hid (M.length = 16) := by show _ = _; rw [hM, colsTo_len]
    rw [← hM] at hI
    have HM := Hid.mk' hM
    have HI2 := Hid.mk' hI
    clear hI HI hM
    by_cases hlt : k < 4
    · have hki : (k : Int) < 4 := by omega
      have hix := index_col wr s hs k hlt
      obtain ⟨X, hX⟩ : ∃ X, X = wordOf s k := ⟨_, rfl⟩
      rw [← hX] at hix
      have HX := Hid.mk' hX
      clear hX
      have hz4 := zero4
      obtain ⟨Z4, hZ4⟩ : ∃ Z4, Z4 = (u8s (List.replicate 4 0)).toArray := ⟨_, rfl⟩
      rw [← hZ4] at hz4
      have HXL : Hid ((nts X).length = 4) := by show _ = _; rw [nts_len, HX.out]; rfl
      have HB0 : Hid (Blk (wr.alloc (.cells Z4 55)) wr.heap.size 55 (u8s (List.replicate 4 0))) := by show Blk _ _ _ _; rw [hZ4]; exact Blk.new rfl
      clear hZ4
      obtain ⟨gc, hgc⟩ : ∃ gc, gc = wr.heap.size := ⟨_, rfl⟩
      have HGC := Hid.mk' hgc
      rw [← hgc] at HB0
      clear hgc
      go_upto_region 5 with (first
        | (refine wpList_store_u8s i55 rfl _ _ rfl gc (nts X) HXL.out (by rw [HGC.out]; rfl) (by exact rfl) _ (by simp [u8s]) HB0.out ?_; intro w2 hb2 hbut2)
        | fail)
      rw [← HGC.out]
      have hlt3 : g + 2 < gc := by rw [HGC.out]; exact HI2.out.dst.lt
      have hba : But (· = gc) wr w2 := ((But.refl (· = gc) wr).alloc _).trans hbut2
      have HI3 : Hid (PutI w g 57 23 s M w2) := by
        have h := HI2.out
        exact ⟨h.src.but hba (show ¬ (g = gc) by omega), h.res.but hba (show ¬ (g + 1 = gc) by omega), h.dst.but hba (show ¬ (g + 2 = gc) by omega), h.but.then hba (fun i hi e => by have := h.but.size; have := HGC.out; omega)⟩
      have HB2 := Hid.mk' hb2
      have hsl := fun w => slice_from w (g + 2) k hlt
      have w1 : IntKind.i64.wrap (4 * (k : Int)) = 4 * (k : Int) := wrapI _ (by omega) (by omega)
      clear hb2 hbut2 hba HB0 HI2 hz4 hix
      refine region_ends (l := [_, _, _, _]) (o := _) (by kernel_rfl) (by kernel_rfl) (by kernel_rfl) rfl (by kernel_rfl) (by kernel_rfl) ?_
      repeat (quiet_step (fail))
      refine wpQuiet_nil ?_
      intro _ hw'
      obtain ⟨nq, hw''⟩ := hw'
      subst hw''
      have hn : But (fun _ => False) w2 (w2.drewN nq) := (But.refl _ w2).drewN
      obtain ⟨w3, hcopy, hb3, hbut3⟩ := copy_col 3 (HI3.out.dst.but hn (fun h => h)) HML.out hlt (HB2.out.but hn (fun h => h)) (by rw [HX.out]; rfl)
      go_wp2
      refine ⟨⟨k + 1, by omega, by go_num, ?_⟩, by simp [intOf]; omega⟩
      have h := HI3.out
      have hb4 : But (· = g + 2) w2 w3 := (hn.mono (fun _ _ h => h.elim)).trans hbut3
      refine ⟨h.src.but hb4 (show ¬ (g = g + 2) by omega), h.res.but hb4 (show ¬ (g + 1 = g + 2) by omega), ?_, h.but.then hb4 (fun i hi e => by have := HG.out; omega)⟩
      rw [← colsTo_set _ k hlt (word_len s k), ← HM.out, ← HX.out]
      exact hb3
    · have hk4 : k = 4 := by omega
      subst hk4
      have HMS : Hid (M = s) := by show _ = _; rw [HM.out, colsTo_all, cols_own hs]
      rw [HMS.out] at HI2
      clear HM HMS HML hs
      go_wp2_with (first
        | (refine wpList_load_u8s Try.underlying23 i23 rfl _ rfl (g + 2) (nts s) HNL.out rfl HI2.out.dst ?_)
        | (refine wpList_store_u8s i23 rfl _ _ rfl (g + 1) (nts s) HNL.out rfl (by exact rfl) _ (by simp [u8s]) HI2.out.res ?_; intro w2 hb2 hbut2))
      refine bodyPost_ret (results_cell_row rfl _ _ (g + 1) _ _ _ _ rfl hb2 Try.underlying23 rfl (by rw [i23]; simp [u8s, HNL.out])) rfl ⟨by rw [HC.out], ?_⟩
      exact HI2.out.but.then hbut2 (fun i hi e => by have := HG.out; omega)
end Go.Proofs.Ytdlalpklopnpjaa
