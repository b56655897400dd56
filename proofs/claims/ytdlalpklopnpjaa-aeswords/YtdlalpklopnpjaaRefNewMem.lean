/- What the reference's New does to memory. -/
import Derived.Test.YtdlalpklopnpjaaRefBoxes
import Derived.Test.YtdlalpklopnpjaaStages
namespace Go.Proofs.Ytdlalpklopnpjaa
open Go.RowKit

/-- No key. -/
def zeroKey : List Value := .slice none 0 0 :: (u8s (List.replicate 256 0) ++ u8s (List.replicate 256 0))
theorem zeroKey_len : zeroKey.length = 513 := by
  unfold zeroKey u8s; rw [List.length_cons, List.length_append, List.length_map, List.length_replicate]
/-- What memory is amid New, the words W made. -/
structure NewI (w : World) (g gb : Nat) (vW : Value) (W : List (List B8)) (wr : World) : Prop where
  res : Blk wr g 32 zeroKey
  key : Blk wr (g + 1) 32 (keyV vW)
  box : Blk wr gb 30 (u8s (nts allBx))
  own : wr.ownsRow (gb + 2) 41 4 vW W.length (u8s (nts W.flatten))
  size : gb + 2 ≤ wr.heap.size
  but : But (fun _ => False) w wr
theorem key_cell {w : World} {bb off n cap : Nat} {key : List B8} (h : Bs w (.slice (some ⟨bb, off, none⟩) n cap) (nts key)) (i : Nat) (hi : i < key.length) : w.cell? ⟨bb, off + i, none⟩ = some (.int .u8 (b8 (at8 key i) : Nat)) := by
  obtain ⟨_, _, ⟨hnil, _⟩ | ⟨_, b2, o2, c2, he, _, _, hc⟩⟩ := h
  · have : key.length = 0 := by rw [← nts_len, hnil]; rfl
    omega
  · have e : (some (⟨bb, off, none⟩ : Addr) : Option Addr) = some ⟨b2, o2, none⟩ := by injection he
    injection e with e
    injection e with e1 e2
    subst e1 e2
    rw [hc i (by rw [nts_len]; exact hi)]
    have := nts_at key i hi
    simp [List.getD, this]
theorem key_lt {w : World} {bb off n cap : Nat} {key : List B8} (h : Bs w (.slice (some ⟨bb, off, none⟩) n cap) (nts key)) (h0 : 0 < key.length) : bb < w.heap.size := by
  obtain ⟨_, _, ⟨hnil, _⟩ | ⟨_, b2, o2, c2, he, _, hb, _⟩⟩ := h
  · have : key.length = 0 := by rw [← nts_len, hnil]; rfl
    omega
  · have e : (some (⟨bb, off, none⟩ : Addr) : Option Addr) = some ⟨b2, o2, none⟩ := by injection he
    injection e with e
    injection e with e1 e2
    rw [e1]; exact hb
/-- A slice into one cell of a block, as one operation. -/
theorem op_store_slice {T : TypeId} (hi : (Try.prog.info? T).map (·.size) = some 1) {w : World} {o : Oper} {a : Act} {K : Act → World → Prop} {Q : Exit → Act → World → Prop} (x y : Operand) (ho : o.op = .store T x y)
    (g off : Nat) (ao : Option Addr) (n c : Nat) (hx : a.eval x = .pointer (some ⟨g, off, none⟩)) (hy : a.eval y = .slice ao n c) (t : TypeId) (A B : List Value) (old : Value) (hb : Blk w g t (A ++ [old] ++ B)) (hA : A.length = off)
    (h : ∀ w', Blk w' g t (A ++ [.slice ao n c] ++ B) → But (· = g) w w' → K (a.put o.dst undef) w') : o.wp Try.prog a w K Q := by
  have hst := run_storeCells_at (P := Try.prog) g off t [Value.slice ao n c] 0 _ w hb (by simp; omega) (fun u hu => by rw [List.mem_singleton.1 hu]; rfl)
  have e : (A ++ [old] ++ B).toArray.toList.take (off + 0) ++ [Value.slice ao n c] ++ (A ++ [old] ++ B).toArray.toList.drop (off + 0 + [Value.slice ao n c].length) = A ++ [Value.slice ao n c] ++ B := by
    subst hA
    simp [List.drop_append]
  rw [e] at hst
  have hr : (storeVar T ⟨g, off, none⟩ (.slice ao n c)).run Try.prog w = .ok () (w.setRow g (A ++ [Value.slice ao n c] ++ B).toArray) := by
    cases hq : Try.prog.info? T with
    | none => simp [hq] at hi
    | some i =>
      have hs : i.size = 1 := by simp [hq] at hi; omega
      simp [storeVar, sizeOf, typeInfo, hq, Value.cells, hs] at hst ⊢
      exact hst
  unfold Oper.wp execOp
  simp only [ho, hx, hy, Instr.storeAt, Instr.sureAddr, Sem.run_bind, Sem.run_pure, Result.andThen_ok, hr]
  exact h _ (hb.row _) ((But.refl (· = g) w).setRow (fun _ => rfl) _)
/-- What memory is amid 'k.W = append(k.W, x)': ia the making of the row of x, ib append, ic the store. -/
structure AppC (ia ib ic : Nat) (w : World) (g gb : Nat) (vk vW : Value) (key : List B8) (W : List (List B8)) (x : List B8) (d : Nat → Bool) (f : Nat → Value) (wx : World) : Prop where
  res : Blk wx g 32 zeroKey
  box : Blk wx gb 30 (u8s (nts allBx))
  bytes : Bs wx vk (nts key)
  size : gb + 2 ≤ wx.heap.size
  but : But (fun _ => False) w wx
  key0 : d ic = false → Blk wx (g + 1) 32 (keyV vW)
  key1 : d ic = true → Blk wx (g + 1) 32 (keyV (f ib))
  own0 : d ib = false → wx.ownsRow (gb + 2) 41 4 vW W.length (u8s (nts W.flatten))
  own1 : d ib = true → wx.ownsRow (gb + 2) 41 4 (f ib) (W.length + 1) (u8s (nts W.flatten) ++ u8s (nts x))
  lit : d ia = true → d ib = false → ∃ h, f ia = .slice (some ⟨h, 0, none⟩) 1 1 ∧ ∀ j u, (u8s (nts x))[j]? = some u → wx.cell? ⟨h, j, none⟩ = some u
theorem AppC.keep {ia ib ic : Nat} {w : World} {g gb : Nat} {vk vW : Value} {key : List B8} {W : List (List B8)} {x : List B8} {d : Nat → Bool} {f : Nat → Value} {wx : World} (h : AppC ia ib ic w g gb vk vW key W x d f wx) (i : Nat) (v : Value) (ha : i ≠ ia) (hb : i ≠ ib) (hc : i ≠ ic) :
    AppC ia ib ic w g gb vk vW key W x (upd d i true) (upd f i v) wx := by
  have e1 := upd_other d true (Ne.symm ha)
  have e2 := upd_other d true (Ne.symm hb)
  have e3 := upd_other d true (Ne.symm hc)
  have e4 := upd_other f v (Ne.symm ha)
  have e5 := upd_other f v (Ne.symm hb)
  exact ⟨h.res, h.box, h.bytes, h.size, h.but, by rw [e3]; exact h.key0, by rw [e3, e5]; exact h.key1, by rw [e2]; exact h.own0, by rw [e2, e5]; exact h.own1, by rw [e1, e2, e4]; exact h.lit⟩
theorem addr_add (g k : Nat) : (⟨g, 0, none⟩ : Addr).add k = ⟨g, k, none⟩ := by
  by_cases e : k = 0
  · subst e; simp [Addr.add]
  · simp [Addr.add, e]
theorem add_cell {w : World} {h j : Nat} {u : Value} (hc : w.cell? ⟨h, j, none⟩ = some u) : w.cell? ((⟨h, 0, none⟩ : Addr).add j) = some u := by
  rw [addr_add]; exact hc
theorem info4 : (Try.prog.info? 41).map (fun i => (i.zero, i.size, i.bytes)) = some (some (.agg #[.int .u8 0, .int .u8 0, .int .u8 0, .int .u8 0]), 4, 4) := by kernel_rfl
theorem row4 (a b c d : Int) (w : World) : (Instr.buildSlice 29 1 #[(0, .agg #[.int .u8 a, .int .u8 b, .int .u8 c, .int .u8 d])]).run Try.prog w = .ok (.slice (some ⟨w.heap.size, 0, none⟩) 1 1) (w.alloc (.cells #[.int .u8 a, .int .u8 b, .int .u8 c, .int .u8 d] 41)) := by kernel_rfl
theorem flat_len {W : List (List B8)} (h : ∀ x ∈ W, x.length = 4) : W.flatten.length = 4 * W.length := by
  induction W with
  | nil => rfl
  | cons x W ih =>
    rw [List.flatten_cons, List.length_append, h x List.mem_cons_self, ih (fun y hy => h y (List.mem_cons_of_mem _ hy)), List.length_cons]; omega
theorem flat_at {W : List (List B8)} (h : ∀ x ∈ W, x.length = 4) (i j : Nat) (hi : i < W.length) (hj : j < 4) : at8 W.flatten (4 * i + j) = at8 (W.getD i []) j := by
  induction W generalizing i with
  | nil => simp at hi
  | cons x W ih =>
    have hx := h x List.mem_cons_self
    cases i with
    | zero =>
      rw [List.flatten_cons]
      unfold at8 List.getD
      rw [List.getElem?_append_left (by omega)]
      simp
    | succ i =>
      have := ih (fun y hy => h y (List.mem_cons_of_mem _ hy)) i (by simpa using hi)
      rw [List.flatten_cons]
      unfold at8 List.getD at this ⊢
      rw [List.getElem?_append_right (by omega), hx, show 4 * (i + 1) + j - 4 = 4 * i + j by omega, List.getElem?_cons_succ]
      exact this
theorem NewI.rows {w : World} {g gb : Nat} {vW : Value} {W : List (List B8)} {wr : World} (h : NewI w g gb vW W wr) (h4 : ∀ x ∈ W, x.length = 4) (h0 : 0 < W.length) :
    ∃ gr cap, vW = .slice (some ⟨gr, 0, none⟩) W.length cap ∧ gb + 2 ≤ gr ∧ gr < wr.heap.size ∧ ∀ i j, i < W.length → j < 4 → wr.cell? ⟨gr, 4 * i + j, none⟩ = some (.int .u8 (b8 (at8 (W.getD i []) j) : Nat)) := by
  have hown := h.own
  have hlt := hown.lt
  obtain ⟨_, ⟨_, hz⟩ | ⟨gr, cap, cur, rfl, _⟩⟩ := h.own
  · omega
  · refine ⟨gr, cap, rfl, (hlt gr rfl).1, (hlt gr rfl).2, fun i j hi hj => ?_⟩
    have hl := flat_len h4
    have hk : 4 * i + j < W.flatten.length := by omega
    have hc := hown.cells (g := gr) rfl (4 * i + j) (.int .u8 (b8 (at8 W.flatten (4 * i + j)) : Nat)) (by unfold u8s; rw [List.getElem?_map, nts_at _ _ hk]; rfl)
    rw [flat_at h4 i j hi hj] at hc
    rw [addr_add] at hc
    exact hc
theorem NewI.words {w : World} {g gb : Nat} {vW : Value} {W : List (List B8)} {wr : World} (h : NewI w g gb vW W wr) (h4 : ∀ x ∈ W, x.length = 4) (h0 : 0 < W.length) : Wr wr vW W := by
  obtain ⟨gr, cap, rfl, _, hg, hc⟩ := h.rows h4 h0
  exact ⟨gr, cap, rfl, hg, hc⟩
theorem NewI.then {w : World} {g gb : Nat} {vW : Value} {W : List (List B8)} {wr w' : World} (h : NewI w g gb vW W wr) (k : But (fun _ => False) wr w') : NewI w g gb vW W w' :=
  ⟨h.res.but k (fun h => h), h.key.but k (fun h => h), h.box.but k (fun h => h), h.own.kept (row := none) ⟨k.os, k.tape, k.output, k.size, fun j hj _ => k.block j hj (fun h => h)⟩ (by cases e : vW.ownBlock with
    | none => exact .inl rfl
    | some j => exact .inr (fun h => by cases h)), Nat.le_trans h.size k.size, h.but.trans k⟩
/-- Only a block beyond those of the key, its words and the boxes turns. -/
theorem NewI.put {w : World} {g gb gt : Nat} {vW : Value} {W : List (List B8)} {wr w' : World} (h : NewI w g gb vW W wr) (hg : g = w.heap.size) (h1 : g + 1 < gt) (h2 : gb < gt) (h3 : vW.ownBlock ≠ some gt) (k : But (· = gt) wr w') : NewI w g gb vW W w' :=
  ⟨h.res.but k (show ¬ (g = gt) by omega), h.key.but k (show ¬ (g + 1 = gt) by omega), h.box.but k (show ¬ (gb = gt) by omega), h.own.kept (row := some gt) ⟨k.os, k.tape, k.output, k.size, fun j hj hn => k.block j hj (fun e => hn (by rw [e]))⟩ (.inr h3), Nat.le_trans h.size k.size, h.but.then k (fun i hi e => by omega)⟩
theorem four_of {x : List B8} (h : x.length = 4) : x = [at8 x 0, at8 x 1, at8 x 2, at8 x 3] := by
  match x, h with
  | [a, b, c, d], _ => rfl
theorem word_cells {w : World} {gr i : Nat} {x : List B8} (hx : x.length = 4) (hc : ∀ j, j < 4 → w.cell? ⟨gr, 4 * i + j, none⟩ = some (.int .u8 (b8 (at8 x j) : Nat))) : ∀ j u, (u8s (nts x))[j]? = some u → w.cell? ((⟨gr, i * 4, none⟩ : Addr).add j) = some u := by
  intro j u hj
  rw [Nat.mul_comm i 4]
  have hlt : j < 4 := by
    rcases Nat.lt_or_ge j 4 with h | h
    · exact h
    · rw [List.getElem?_eq_none (by unfold u8s; rw [List.length_map, nts_len]; omega)] at hj; cases hj
  unfold u8s at hj
  rw [List.getElem?_map, nts_at x j (by omega)] at hj
  obtain rfl := Option.some.inj hj
  have := hc j hlt
  by_cases e : j = 0
  · subst e; simpa [Addr.add] using this
  · simpa [Addr.add, e] using this
theorem NewI.cell {w : World} {g gb gr I cp : Nat} {W : List (List B8)} {wr : World} (h : NewI w g gb (.slice (some ⟨gr, 0, none⟩) I cp) W wr) (h4 : ∀ x ∈ W, x.length = 4) (i j : Nat) (hi : i < W.length) (hj : j < 4) :
    wr.cell? ⟨gr, i * 4 + j, none⟩ = some (.int .u8 (b8 (at8 (W.getD i []) j) : Nat)) := by
  obtain ⟨gr', cp', he, _, _, hc⟩ := h.rows h4 (by omega)
  have e : (some (⟨gr, 0, none⟩ : Addr) : Option Addr) = some ⟨gr', 0, none⟩ := by injection he
  injection e with e
  injection e with e1
  subst e1
  rw [Nat.mul_comm i 4]
  exact hc i j hi hj
def mk4 (f : Nat → B8) : List B8 := [f 0, f 1, f 2, f 3]
theorem mk4_at (f : Nat → B8) (i : Nat) (h : i < 4) : at8 (mk4 f) i = f i := by
  match i, h with
  | 0, _ => rfl
  | 1, _ => rfl
  | 2, _ => rfl
  | 3, _ => rfl
theorem ext4 {a b : List B8} (ha : a.length = 4) (hb : b.length = 4) (h : ∀ i, i < 4 → at8 a i = at8 b i) : a = b := by
  rw [four_of ha, four_of hb, h 0 (by decide), h 1 (by decide), h 2 (by decide), h 3 (by decide)]
def partX (u t : List B8) (k : Nat) : List B8 := mk4 fun i => if i < k then at8 u i ^^^ at8 t i else 0
theorem partX_len (u t : List B8) (k : Nat) : (partX u t k).length = 4 := rfl
theorem partX_all (u t : List B8) : partX u t 4 = xor4 u t := rfl
theorem partX_set (u t : List B8) (k : Nat) (h : k < 4) : (partX u t k).set k (at8 u k ^^^ at8 t k) = partX u t (k + 1) := by
  refine ext4 (by rw [List.length_set]; rfl) rfl (fun i hi => ?_)
  rw [at8_set _ _ _ _ (by rw [partX_len]; exact h)]
  unfold partX
  rw [mk4_at _ i hi, mk4_at _ i hi]
  by_cases h2 : i = k
  · subst h2; rw [if_pos rfl, if_pos (Nat.lt_succ_self _)]
  · rw [if_neg h2]
    by_cases h3 : i < k
    · rw [if_pos h3, if_pos (by omega)]
    · rw [if_neg h3, if_neg (by omega)]
/-- Between append and the store. -/
structure MidI (w : World) (g gb : Nat) (v v' : Value) (W : List (List B8)) (x : List B8) (wr : World) : Prop where
  res : Blk wr g 32 zeroKey
  key : Blk wr (g + 1) 32 (keyV v)
  box : Blk wr gb 30 (u8s (nts allBx))
  own : wr.ownsRow (gb + 2) 41 4 v' (W.length + 1) (u8s (nts W.flatten) ++ u8s (nts x))
  size : gb + 2 ≤ wr.heap.size
  but : But (fun _ => False) w wr
theorem NewI.mid {w : World} {g gb : Nat} {v v' : Value} {W : List (List B8)} {x : List B8} {wr w' : World} (h : NewI w g gb v W wr) (hg : g = w.heap.size) (hgb : g + 1 < gb) (k : wr.grownBy w' v.ownBlock) (ho : w'.ownsRow (gb + 2) 41 4 v' (W.length + 1) (u8s (nts W.flatten) ++ u8s (nts x))) : MidI w g gb v v' W x w' := by
  have hlt := h.own.lt
  have hk : But (fun j => v.ownBlock = some j) wr w' := ⟨k.os, k.tape, k.output, k.size, fun j hj hn => k.block j hj (fun e => hn e.symm)⟩
  have n0 : ∀ j, j < gb + 2 → ¬ (v.ownBlock = some j) := fun j hj e => by have := (hlt j e).1; omega
  exact ⟨h.res.but hk (n0 g (by omega)), h.key.but hk (n0 (g + 1) (by omega)), h.box.but hk (n0 gb (by omega)), ho, Nat.le_trans h.size k.size, h.but.then hk (fun j hj e => absurd e (n0 j (by omega)))⟩
theorem MidI.store {w : World} {g gb : Nat} {v v' : Value} {W : List (List B8)} {x : List B8} {wr : World} (h : MidI w g gb v v' W x wr) (hg : g = w.heap.size) (hgb : g + 1 < gb) : NewI w g gb v' (W ++ [x]) (wr.setCell ⟨g + 1, 0, none⟩ v') := by
  have hlt := h.own.lt
  have k : But (· = g + 1) wr (wr.setCell ⟨g + 1, 0, none⟩ v') := (But.refl (· = g + 1) wr).setCell (p := ⟨g + 1, 0, none⟩) (fun _ => rfl) _
  refine ⟨h.res.but k (show ¬ (g = g + 1) by omega), h.key.set 0 v', h.box.but k (show ¬ (gb = g + 1) by omega), ?_, Nat.le_trans h.size k.size, h.but.then k (fun j hj e => by omega)⟩
  have ho := h.own.kept (row := some (g + 1)) ⟨k.os, k.tape, k.output, k.size, fun j hj hn => k.block j hj (fun e => hn (by rw [e]))⟩ (.inr (fun e => by have := (hlt _ e).1; omega))
  rw [List.length_append, List.flatten_append]
  simpa [nts, u8s] using ho
theorem results_row_tmp {P : Program} {fn : Func} {p u : Tmp} {ty : TypeId} (h : fn.results = #[.cell p ty, .tmp u]) (tmps : Array Value) (w : World) (g : Nat) (t : TypeId) (cs : Array Value) (d : TypeDesc) (v : Value)
    (hp : tmps.getD p undef = .pointer (some ⟨g, 0, none⟩)) (hg : w.heap[g]? = some (.cells cs t (0, 0))) (hu : P.underlying ty = some d) (hd : (match d with | .struct _ | .array _ _ => true | _ => false) = true) (hi : (P.info? ty).map (·.size) = some cs.size) (hv : tmps.getD u undef = v) :
    (results fn tmps).run P w = .ok (.tuple #[.agg cs, v]) w := by
  have hp' : tmps[p]?.getD undef = .pointer (some ⟨g, 0, none⟩) := by simpa using hp
  have hv' : tmps[u]?.getD undef = v := by simpa using hv
  simp [results, h, hp', hv', asAddr, run_loadVar_row w g t ty cs (0, 0) d hg hu hd hi]
end Go.Proofs.Ytdlalpklopnpjaa
