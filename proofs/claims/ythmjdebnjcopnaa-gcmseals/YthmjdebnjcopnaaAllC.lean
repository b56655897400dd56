/- Puts, GhashElem, GhashTab, GhashMul, GhashOf, GhashBlk, GhashNew, Cuts, GhashTake, GhashEach, GhashProg, FieldRefTimes, FieldPower, FieldBoxed, FieldSet, FieldGen, FieldNew, FieldBoxes, RowLeaf, RowRead. -/
import Derived.Test.YthmjdebnjcopnaaAllA
import Derived.Laws.Cover3
import Derived.Laws.Pointers
import Derived.Laws.BitsAllLaws
import Derived.Laws.CopyOwn
import Derived.Test.YthmjdebnjcopnaaAllB
import Derived.Laws.CopyRow
import Derived.Defers
import Derived.Recover
/- row: Put. -/
namespace Go.Proofs.Ythmjdebnjcopnaa
open Go.RowKit

/-- The lowest k bytes of N, the highest first. -/
def be (N : Nat) : Nat → List Nat
  | 0 => []
  | k + 1 => (N / 256 ^ k % 256) :: be N k
theorem be_len (N k : Nat) : (be N k).length = k := by induction k with
  | zero => rfl
  | succ k ih => simp [be, ih]
theorem be_lt (N k : Nat) : ∀ z ∈ be N k, z < 256 := by induction k with
  | zero => simp [be]
  | succ k ih =>
    intro z hz
    rcases List.mem_cons.1 hz with rfl | hz
    · omega
    · exact ih z hz
theorem setRow_at (w : World) (g : Nat) (cs cur : Array Value) (t : TypeId) (fr : Nat × Nat) (h : w.heap[g]? = some (.cells cur t fr)) : (w.setRow g cs).heap[g]? = some (.cells cs t fr) := by
  simp [World.setRow, Array.getElem?_modify, h]
theorem wpList_copy_bs {w : World} {ops : Array Oper} {rest : List Oper} {o : Oper} {a : Act} {Q : Exit → Act → World → Prop} (hgd : o.guard = none) (d s : Operand)
    (ho : o.op = .call { callee := .builtin .copy, args := #[d, s], argTypes := #[22, 22] }) (g dLen dCap : Nat) (v : Value) (xs ys : List Nat)
    (hd : a.eval d = .slice (some ⟨g, 0, none⟩) dLen dCap) (hs : a.eval s = v) (hv : Bs w v xs) (hl : dLen = ys.length) (hle : xs.length ≤ ys.length) (hg : w.heap[g]? = some (.cells (u8s ys).toArray 5 (0, 0)))
    (h' : ∀ w', w'.heap[g]? = some (.cells (u8s (xs ++ ys.drop xs.length)).toArray 5 (0, 0)) → w.grownBy w' (some g) → wpList Try.prog ops Q rest (a.put o.dst (goInt xs.length)) w') : wpList Try.prog ops Q (o :: rest) a w := by
  obtain ⟨i0, hi, hz0, hz1, hz2⟩ := info_parts u8info
  have hsz : (Try.prog.info? 5).map (·.size) = some 1 := by rw [hi]; simp [hz1]
  obtain ⟨ao, cap, rfl, hnone, hc⟩ := hv.gen
  have h := h' (w.setRow g (u8s (xs ++ ys.drop xs.length)).toArray) (setRow_at w g _ _ _ _ hg) ⟨rfl, rfl, rfl, by simp [World.setRow], fun k _ hk => setRow_other w g k _ (fun e => hk (by rw [e]))⟩
  have hmin : Nat.min xs.length dLen = xs.length := Nat.min_eq_left (by omega)
  cases ao with
  | none =>
    obtain ⟨h0, _⟩ := hnone rfl
    have := List.eq_nil_of_length_eq_zero h0
    subst this
    refine wpList_copy_nothing hgd d s _ _ ho 5 Try.underlying22 hsz _ _ _ _ _ _ hd hs (by simp) ?_
    rw [List.nil_append, List.length_nil, List.drop_zero, setRow_self w g _ _ _ hg] at h
    exact h
  | some ad =>
    refine wpList_copy_own hgd d s _ _ ho 5 Try.underlying22 hsz g 0 dLen dCap ad _ _ hd hs _ _ hg (u8s xs) (by rw [hmin]; simp [u8s]) (hc ad rfl) (by simp [u8s]; omega) (u8s_one xs) ?_
    have e : (List.take 0 (u8s ys).toArray.toList ++ (u8s xs ++ List.drop (0 + (u8s xs).length) (u8s ys).toArray.toList)) = u8s (xs ++ ys.drop xs.length) := by
      simp [u8s]
    rw [e]
    have e2 : (u8s xs).length = xs.length := by simp [u8s]
    rw [e2]
    exact h

theorem shr_pow (n s : Nat) : (n : Int) / 2 ^ (8 * s) = ((n / 256 ^ s : Nat) : Int) := by
  have e : (256 : Nat) ^ s = 2 ^ (8 * s) := by rw [Nat.pow_mul]
  rw [e]; simp

theorem made_zero (m : Nat) : (madeCells (Value.int .u8 0).cells (m * 1)).toList = u8s (List.replicate m 0) := by
  have : (Value.int .u8 0).cells = #[.int .u8 0] := rfl
  rw [this, Nat.mul_one, toList_madeCells_one]; simp [u8s]
theorem own_block {w : World} {B g m : Nat} {xs : List Value} (h : w.ownsRow B 5 1 (.slice (some ⟨g, 0, none⟩) m m) m xs) : w.heap[g]? = some (.cells xs.toArray 5 (0, 0)) := by
  obtain ⟨h1, ⟨h2, _⟩ | ⟨g', cap, cur, h2, _, hh, _, _, hs, ht⟩⟩ := h
  · cases h2
  · obtain ⟨rfl, _, rfl⟩ := slice_inj h2
    rw [hh, ← ht, Nat.mul_one]
    have e : cur.toList.take m = cur.toList := List.take_of_length_le (by rw [Array.length_toList]; omega)
    rw [e]
theorem block_own {w : World} {B g : Nat} {zs : List Nat} (h : w.heap[g]? = some (.cells (u8s zs).toArray 5 (0, 0))) (hB : B ≤ g) (hz : ∀ z ∈ zs, z < 256) (hl : zs.length ≤ 281474976710656) : Ow w B (.slice (some ⟨g, 0, none⟩) zs.length zs.length) zs := by
  refine ⟨hz, hl, by simp [u8s], .inr ⟨g, zs.length, _, rfl, hB, h, Nat.le_refl _, by unfold maxLen; omega, by simp [u8s], ?_⟩⟩
  rw [Nat.mul_one]; exact List.take_of_length_le (by simp [u8s])
theorem set_next (xs : List Nat) (s k d N : Nat) (hk : k < s) (hd : d = N / 256 ^ k % 256) :
    (u8s (xs ++ (List.replicate (s - k) 0 ++ be N k))).toArray.setIfInBounds (xs.length + s - 1 - k) (.int .u8 (d : Nat)) = (u8s (xs ++ (List.replicate (s - (k + 1)) 0 ++ be N (k + 1)))).toArray := by
  subst hd
  apply Array.ext'
  rw [Array.toList_setIfInBounds]
  show (u8s (xs ++ (List.replicate (s - k) 0 ++ be N k))).set _ _ = u8s (xs ++ (List.replicate (s - (k + 1)) 0 ++ be N (k + 1)))
  have e1 : s - k = (s - (k + 1)) + 1 := by omega
  have e2 : xs.length + s - 1 - k = xs.length + (s - (k + 1)) := by omega
  rw [e1, e2, List.replicate_succ']
  simp only [u8s, List.map_append, List.map_cons, be, List.append_assoc]
  rw [List.set_append_right _ _ (by simp), List.length_map, Nat.add_sub_cancel_left, List.set_append_right _ _ (by simp)]
  simp

set_option maxRecDepth 100000 in
theorem put_ok {v : Value} {xs : List Nat} {w : World} (hv : Bs w v xs) (hl : xs.length ≤ 140737488355328) (n s : Nat) (h1 : 1 ≤ s) (h8 : s ≤ 8) (hn : n / 256 ^ s = 0) :
    Calls Try.prog 89 #[v, .int .u64 n, .int .i64 s] w fun e w' => ∃ v', e = .returned (.tuple #[v', .int .i64 0]) ∧ Ow w' w.heap.size v' (xs ++ be n s) ∧ Below w.heap.size w w' := by
  obtain ⟨i0, hi, hz0, hz1, hz2⟩ := info_parts u8info
  have HI : Hid (Calls Try.prog 84 #[.int .i64 s] w fun e w' => e = .returned (.bool true) ∧ w' = w) := by
    have := isSize_any s w
    rw [decide_eq_true (by omega)] at this
    exact this
  have hd : ((n : Int) / 2 ^ (8 * s) != 0) = false := by
    rw [shr_pow, hn]; rfl
  have HV : Hid (Bs w v xs) := hv
  obtain ⟨ao, cap, rfl, hnone, _⟩ := hv.gen
  obtain ⟨L, hL⟩ : ∃ L, xs.length = L := ⟨_, rfl⟩
  rw [hL] at hl hnone HV ⊢
  have HL : Hid (xs.length = L) := hL
  clear hn hv hL
  go_enter Try.func89, Try.ntmps89
  go_wp2_with (first
    | (go_at_call 84; refine Calls.mono HI.out ?_; rintro e w' ⟨rfl, hw1⟩; have hw2 := hw1.symm; subst hw2)
    | (at_make; refine wpList_make_full _ rfl _ _ 22 rfl w.heap.size 5 i0 (.int .u8 0) 1 Try.underlying22 hi hz0 hz1 .i64 .i64 _ _ (L + s) rfl rfl (by go_num) (by go_num) (by rw [hz2]; omega) (by unfold maxLen; omega) (Nat.le_refl _) ?_; intro w1 hown hgrow)
    | (refine wpList_copy_bs rfl _ _ rfl w.heap.size (L + s) (L + s) _ xs (List.replicate (L + s) 0) rfl rfl (HV.out.grown hgrow (by simp)) (by simp) (by rw [HL.out]; simp) (by rw [own_block hown, made_zero]) ?_; intro w2 hg2 hgrow2))
  have hb1 : Below w.heap.size w w1 := (Below.refl _ _).grown hgrow (Nat.le_refl _) (by simp)
  have hb2 : Below w.heap.size w w2 := hb1.grown hgrow2 hb1.size (by simp)
  have hg3 : w2.heap[w.heap.size]? = some (.cells (u8s (xs ++ (List.replicate (s - 0) 0 ++ be n 0))).toArray 5 (0, 0)) := by
    rw [hg2, HL.out]
    simp [be]
  clear hown hgrow hb1 hg2 hgrow2
  go_loopw [1, 9] (fun m i wr => ∃ k : Nat, k ≤ s ∧ i = .int .i64 ((L : Int) + s - 1 - k) ∧ m = .int .u64 (n / 256 ^ k : Nat) ∧ wr.heap[w.heap.size]? = some (.cells (u8s (xs ++ (List.replicate (s - k) 0 ++ be n k))).toArray 5 (0, 0)) ∧ Below w.heap.size w wr)
    (fun _ i _ => ((intOf i) + 1 - L).toNat)
  case atStart => exact ⟨0, Nat.zero_le _, by simp, by simp, hg3, hb2⟩
  case round =>
    obtain ⟨k, hk, rfl, rfl, hg, hbel⟩ := hrel
    by_cases hlt : k < s
    · have ej : (L : Int) + s - 1 - k = ((L + s - 1 - k : Nat) : Int) := by omega
      have HJ : Hid (L + s - 1 - k = xs.length + s - 1 - k) := by show _ = _; rw [HL.out]
      obtain ⟨old, ho⟩ : ∃ x, wr.cell? ⟨w.heap.size, L + s - 1 - k, none⟩ = some x := by
        rw [cell_of_row wr _ _ _ _ _ hg]
        have hb : L + s - 1 - k < (u8s (xs ++ (List.replicate (s - k) 0 ++ be n k))).toArray.size := by simp [u8s, be_len, HL.out]; omega
        exact ⟨_, Array.getElem?_eq_getElem hb⟩
      have hz := frozen_of_row wr w.heap.size (L + s - 1 - k) _ _ hg
      have HG : Hid (wr.heap[w.heap.size]? = some (.cells (u8s (xs ++ (List.replicate (s - k) 0 ++ be n k))).toArray 5 (0, 0))) := hg
      obtain ⟨M, hM⟩ : ∃ M, n / 256 ^ k = M := ⟨_, rfl⟩
      have HM : Hid (n / 256 ^ k = M) := hM
      rw [ej, hM]
      have j1 : L ≤ L + s - 1 - k := by omega
      have j2 : L + s - 1 - k < L + s := by omega
      have HK : Hid (k + (L + s - 1 - k) + 1 = L + s) := by show _ = _; omega
      clear hg ej hM
      generalize L + s - 1 - k = j at *
      go_wp2
      have hk' := HK.out
      refine ⟨⟨k + 1, by omega, congrArg _ (by omega), ?_, ?_, hbel.setCell (by simp) _⟩, by simp [intOf]; omega⟩
      · rw [Nat.pow_succ, ← Nat.div_div_eq_div_mul, HM.out]; simp
      · have e : (M : Int) % 256 = ((M % 256 : Nat) : Int) := by omega
        rw [heap_setCell_same wr _ _ _ _ _ HG.out, e, HJ.out, set_next xs s k (M % 256) n hlt (by rw [HM.out])]
    · have hkn : k = s := by omega
      subst hkn
      have HO : Hid (Ow wr w.heap.size (.slice (some ⟨w.heap.size, 0, none⟩) (L + k) (L + k)) (xs ++ be n k)) := by
        have hlen : (xs ++ be n k).length = L + k := by rw [List.length_append, be_len, HL.out]
        rw [Nat.sub_self, List.replicate_zero, List.nil_append] at hg
        have := block_own (B := w.heap.size) hg (Nat.le_refl _) (by
          intro z hz
          rcases List.mem_append.1 hz with hz | hz
          · exact HV.out.1 z hz
          · exact be_lt n k z hz) (by rw [hlen]; omega)
        rw [hlen] at this
        exact this
      clear hg
      generalize n / 256 ^ k = M at *
      go_wp2
      go_ret2
      exact ⟨_, rfl, HO.out, hbel⟩
end Go.Proofs.Ythmjdebnjcopnaa
/- ghash: elements: sums, masks, times x. -/
namespace Go.Proofs.Ythmjdebnjcopnaa
open Go.RowKit

def n6 (x : W64) : Nat := x.toNat
theorem n6_lt (x : W64) : n6 x < 18446744073709551616 := x.isLt
theorem xor_n6 (a b : W64) : bits .xor .u64 (n6 a : Int) (n6 b : Int) = (n6 (a ^^^ b) : Int) := by
  rw [u64_xor_nat _ _ (n6_lt a) (n6_lt b)]; unfold n6; rw [BitVec.toNat_xor]
theorem and_n6 (a b : W64) : bits .and .u64 (n6 a : Int) (n6 b : Int) = (n6 (a &&& b) : Int) := by
  rw [u64_and_nat _ _ (n6_lt a) (n6_lt b)]; unfold n6; rw [BitVec.toNat_and]
theorem or_n6 (a b : W64) : bits .or .u64 (n6 a : Int) (n6 b : Int) = (n6 (a ||| b) : Int) := by
  rw [u64_or_nat _ _ (n6_lt a) (n6_lt b)]; unfold n6; rw [BitVec.toNat_or]
theorem shr_n6 (a : W64) (k : Nat) : (n6 a : Int) / 2 ^ k = (n6 (a >>> k) : Int) := by
  unfold n6; rw [BitVec.toNat_ushiftRight, Nat.shiftRight_eq_div_pow]; simp
theorem shl_n6 (a : W64) (k : Nat) : IntKind.u64.wrap ((n6 a : Int) * 2 ^ k) = (n6 (a <<< k) : Int) := by
  rw [IntKind.wrap_u64]; unfold n6; rw [BitVec.toNat_shiftLeft, Nat.shiftLeft_eq]
  have e : ((a.toNat : Int) * 2 ^ k) = ((a.toNat * 2 ^ k : Nat) : Int) := by simp
  rw [e]; omega
/-- Two words, as an element's cells. -/
def el (x y : W64) : List Value := [.int .u64 (n6 x : Int), .int .u64 (n6 y : Int)]
def ev (g : G) : List Value := el (fw g) (sw g)
theorem i39 : (Try.prog.info? 72).map (·.size) = some 2 := by kernel_rfl
theorem ret_el {fn : Func} {p : Tmp} (h : fn.results = #[.cell p 72]) (tmps : Array Value) (w : World) (g : Nat) (T : TypeId) (x y : Value) (hp : tmps.getD p undef = .pointer (some ⟨g, 0, none⟩)) (hg : Blk w g T [x, y]) :
    (results fn tmps).run Try.prog w = .ok (.agg #[x, y]) w :=
  results_cell_row h tmps w g T #[x, y] (0, 0) _ hp hg Try.underlying72 rfl (by rw [i39]; rfl)
set_option maxRecDepth 100000 in
set_option maxHeartbeats 1000000 in
theorem plus_w {w : World} (x y p q : W64) :
    Calls Try.prog 71 #[.agg #[.int .u64 (n6 x : Int), .int .u64 (n6 y : Int)], .agg #[.int .u64 (n6 p : Int), .int .u64 (n6 q : Int)]] w fun e w' => e = .returned (.agg #[.int .u64 (n6 (x ^^^ p) : Int), .int .u64 (n6 (y ^^^ q) : Int)]) ∧ But (fun _ => False) w w' := by
  have h1 := xor_n6 x p
  have h2 := xor_n6 y q
  go_enter Try.func71, Try.ntmps71
  go_wp2
  refine bodyPost_ret (ret_el rfl _ _ (w.heap.size + 1 + 1) 72 _ _ rfl (Blk.new (L := [_, _]) (by simp))) rfl ⟨rfl, (((But.refl _ w).alloc _).alloc _).alloc _⟩
set_option maxRecDepth 100000 in
set_option maxHeartbeats 1000000 in
theorem masked_w {w : World} (x y p : W64) :
    Calls Try.prog 87 #[.agg #[.int .u64 (n6 x : Int), .int .u64 (n6 y : Int)], .int .u64 (n6 p : Int)] w fun e w' => e = .returned (.agg #[.int .u64 (n6 (x &&& p) : Int), .int .u64 (n6 (y &&& p) : Int)]) ∧ But (fun _ => False) w w' := by
  have h1 := and_n6 x p
  have h2 := and_n6 y p
  go_enter Try.func87, Try.ntmps87
  go_wp2
  refine bodyPost_ret (ret_el rfl _ _ (w.heap.size + 1) 72 _ _ rfl (Blk.new (L := [_, _]) (by simp))) rfl ⟨rfl, ((But.refl _ w).alloc _).alloc _⟩
theorem top_bit (n : W64) : n.getLsbD 63 = decide (9223372036854775808 ≤ n6 n) := by
  have h : n.getLsbD 63 = n.msb := by rw [BitVec.msb_eq_getLsbD_last]
  rw [h, BitVec.msb_eq_decide]; rfl
set_option maxRecDepth 100000 in
theorem spread_w {w : World} (n : W64) :
    Calls Try.prog 88 #[.int .u64 (n6 n : Int)] w fun e w' => e = .returned (.int .u64 (n6 (msk (n.getLsbD 63)) : Int)) ∧ w' = w := by
  have hlt := n6_lt n
  rw [top_bit]
  obtain ⟨N, hN⟩ : ∃ N, N = n6 n := ⟨_, rfl⟩
  rw [← hN] at hlt ⊢
  clear hN
  by_cases h : 9223372036854775808 ≤ N
  · rw [decide_eq_true h, show n6 (msk true) = 18446744073709551615 by decide]
    have hc : IntKind.i64.wrap (N : Int) = (N : Int) - 18446744073709551616 := by rw [IntKind.wrap_i64]; omega
    obtain ⟨V, hV⟩ : ∃ V, V = (N : Int) - 18446744073709551616 := ⟨_, rfl⟩
    rw [← hV] at hc
    have hd : V / 9223372036854775808 = -1 := by omega
    have hw : IntKind.u64.wrap (-1) = 18446744073709551615 := by decide
    clear hV h hlt
    go_enter Try.func88, Try.ntmps88
    go_wp2
    go_ret
    exact ⟨rfl, rfl⟩
  · rw [decide_eq_false h, show n6 (msk false) = 0 by decide]
    have hc : IntKind.i64.wrap (N : Int) = (N : Int) := by rw [IntKind.wrap_i64]; omega
    have hd : (N : Int) / 9223372036854775808 = 0 := by omega
    clear h hlt
    go_enter Try.func88, Try.ntmps88
    go_wp2
    go_ret
    exact ⟨rfl, rfl⟩
theorem low_bit (y : W64) : y &&& 1#64 = cx (y.getLsbD 0) 1#64 := by
  apply BitVec.eq_of_getLsbD_eq
  intro j hj
  rw [BitVec.getLsbD_and]
  by_cases h : j = 0
  · subst h
    cases y.getLsbD 0
    · simp [cx]
    · simp [cx]
  · have e : (1#64).getLsbD j = false := by
      rw [BitVec.getLsbD_one]; simp; omega
    rw [e]
    cases y.getLsbD 0
    · simp [cx]
    · simp only [cx, if_true, e, Bool.and_false]
set_option maxRecDepth 100000 in
set_option maxHeartbeats 1000000 in
theorem timesX_w {w : World} (x y : W64) :
    Calls Try.prog 63 #[.agg #[.int .u64 (n6 x : Int), .int .u64 (n6 y : Int)]] w fun e w' => e = .returned (.agg #[.int .u64 (n6 ((x >>> 1) ^^^ cx (y.getLsbD 0) 0xe100000000000000#64) : Int), .int .u64 (n6 (x <<< 63 ||| y >>> 1) : Int)]) ∧ But (fun _ => False) w w' := by
  have h1 := shr_n6 x 1
  have h2 := shr_n6 y 1
  rw [show (2 : Int) ^ 1 = 2 by rfl] at h1 h2
  have h3 : IntKind.u64.wrap ((n6 x : Int) * 9223372036854775808) = (n6 (x <<< 63) : Int) := shl_n6 x 63
  have h4 := or_n6 (x <<< 63) (y >>> 1)
  cases hb : y.getLsbD 0
  · have h5 : bits .and .u64 (n6 y : Int) 1 = 0 := by
      have h := and_n6 y 1#64
      rw [low_bit, hb] at h
      exact h
    have h6 : bits .xor .u64 (n6 (x >>> 1) : Int) 0 = (n6 ((x >>> 1) ^^^ cx false 0xe100000000000000#64) : Int) := xor_n6 (x >>> 1) 0#64
    clear hb
    go_enter Try.func63, Try.ntmps63
    go_wp2
    refine bodyPost_ret (ret_el rfl _ _ (w.heap.size + 1) 72 _ _ rfl (Blk.new (L := [_, _]) (by simp))) rfl ⟨rfl, ((But.refl _ w).alloc _).alloc _⟩
  · have h5 : bits .and .u64 (n6 y : Int) 1 = 1 := by
      have h := and_n6 y 1#64
      rw [low_bit, hb] at h
      exact h
    have h6 : bits .xor .u64 (n6 (x >>> 1) : Int) 16212958658533785600 = (n6 ((x >>> 1) ^^^ cx true 0xe100000000000000#64) : Int) := xor_n6 (x >>> 1) 16212958658533785600#64
    clear hb
    go_enter Try.func63, Try.ntmps63
    go_wp2
    refine bodyPost_ret (ret_el rfl _ _ (w.heap.size + 1) 72 _ _ rfl (Blk.new (L := [_, _]) (by simp))) rfl ⟨rfl, ((But.refl _ w).alloc _).alloc _⟩
/-- The same, of elements. -/
theorem plus_any {w : World} (a b : G) : Calls Try.prog 71 #[.agg (ev a).toArray, .agg (ev b).toArray] w fun e w' => e = .returned (.agg (ev (a ^^^ b)).toArray) ∧ But (fun _ => False) w w' := by
  have h := plus_w (w := w) (fw a) (sw a) (fw b) (sw b)
  rw [← fw_xor, ← sw_xor] at h
  exact h
theorem masked_any {w : World} (a : G) (b : Bool) : Calls Try.prog 87 #[.agg (ev a).toArray, .int .u64 (n6 (msk b) : Int)] w fun e w' => e = .returned (.agg (ev (cx b a)).toArray) ∧ But (fun _ => False) w w' := by
  have h := masked_w (w := w) (fw a) (sw a) (msk b)
  rw [← fw_msk, ← sw_msk] at h
  exact h
theorem timesX_any {w : World} (a : G) : Calls Try.prog 63 #[.agg (ev a).toArray] w fun e w' => e = .returned (.agg (ev (mx a)).toArray) ∧ But (fun _ => False) w w' := by
  have h := timesX_w (w := w) (fw a) (sw a)
  rw [← fw_mx, ← sw_mx] at h
  exact h
end Go.Proofs.Ythmjdebnjcopnaa
/- ghash: the multiples of an element, and products by them. -/
namespace Go.Proofs.Ythmjdebnjcopnaa
open Go.RowKit

theorem ev_len (a : G) : (ev a).length = 2 := rfl
theorem ev_one (a : G) : ∀ v ∈ ev a, v.oneCell' = true := by
  intro v hv
  simp only [ev, el, List.mem_cons, List.not_mem_nil, or_false] at hv
  rcases hv with rfl | rfl <;> rfl
/-- The cells of the first k multiples. -/
def tb (a : G) : Nat → List Value
  | 0 => []
  | k + 1 => tb a k ++ ev (mxs k a)
theorem tb_len (a : G) (k : Nat) : (tb a k).length = 2 * k := by
  induction k with
  | zero => rfl
  | succ k ih => show (tb a k ++ ev (mxs k a)).length = _; rw [List.length_append, ih, ev_len]; omega
theorem tb_at (a : G) (i j : Nat) (hj : j < 2) : ∀ k, i < k → (tb a k)[2 * i + j]? = (ev (mxs i a))[j]?
  | k + 1, h => by
    show (tb a k ++ ev (mxs k a))[2 * i + j]? = _
    by_cases e : i = k
    · subst e
      rw [List.getElem?_append_right (by rw [tb_len]; omega), tb_len, show 2 * i + j - 2 * i = j by omega]
    · rw [List.getElem?_append_left (by rw [tb_len]; omega)]
      exact tb_at a i j hj k (by omega)
theorem tb_cells {w : World} {g : Nat} {T : TypeId} {h : G} (hb : Blk w g T (tb h 128)) (i off : Nat) (hi : i < 128) (ho : off = i * 2) :
    ∀ j v, (ev (mxs i h))[j]? = some v → w.cell? ((⟨g, off, none⟩ : Addr).add j) = some v := by
  intro j v hv
  have hj : j < 2 := (List.getElem?_eq_some_iff.1 hv).1
  have e : (⟨g, off, none⟩ : Addr).add j = ⟨g, 2 * i + j, none⟩ := by rw [ho, Nat.mul_comm]; simp [Addr.add]
  rw [e, hb.cell, tb_at h i j hj 128 hi]; exact hv
theorem run_load_ev {w : World} {o : Oper} {a : Act} {x : Operand} {ad : Addr} {s : G} (hc : ∀ j v, (ev s)[j]? = some v → w.cell? (ad.add j) = some v) (ho : o.op = .load 72 x) (hx : a.eval x = .pointer (some ad)) :
    (execOp a.eval o).run Try.prog w = .ok (.value (.agg (ev s).toArray)) w := by
  have h := run_loadVar_cells w ad 72 (ev s) _ hc Try.underlying72 rfl (by rw [i39, ev_len])
  unfold execOp
  simp only [ho, hx, Instr.loadAt, Instr.sureAddr, Sem.run_bind, Sem.run_pure, Result.andThen_ok, h]
theorem wpList_load_ev {w : World} {ops : Array Oper} {rest : List Oper} {o : Oper} {a : Act} {Q : Exit → Act → World → Prop} (hgd : o.guard = none) (x : Operand) (ho : o.op = .load 72 x)
    (ad : Addr) (s : G) (hx : a.eval x = .pointer (some ad)) (hc : ∀ j v, (ev s)[j]? = some v → w.cell? (ad.add j) = some v) (h : wpList Try.prog ops Q rest (a.put o.dst (.agg (ev s).toArray)) w) : wpList Try.prog ops Q (o :: rest) a w :=
  wpList_load_cells hgd 72 x ho ad hx (ev s) _ hc Try.underlying72 rfl (by rw [i39, ev_len]) h
/-- An element over an element that fills its block. -/
theorem wpList_store_ev {w : World} {ops : Array Oper} {rest : List Oper} {o : Oper} {a : Act} {Q : Exit → Act → World → Prop} (hgd : o.guard = none) (x y : Operand) (ho : o.op = .store 72 x y)
    (g : Nat) (T : TypeId) (s old : G) (hx : a.eval x = .pointer (some ⟨g, 0, none⟩)) (hy : a.eval y = .agg (ev s).toArray) (hb : Blk w g T (ev old))
    (h : ∀ w', Blk w' g T (ev s) → But (· = g) w w' → wpList Try.prog ops Q rest (a.put o.dst undef) w') : wpList Try.prog ops Q (o :: rest) a w :=
  wpList_store_at hgd 72 x y ho g 0 (ev s) hx hy T [] (ev old) [] (by rw [List.nil_append, List.append_nil]; exact hb) rfl (by rw [ev_len, ev_len]) (by rw [i39, ev_len]) (ev_one s) (by
    intro w' hb' hbt
    rw [List.nil_append, List.append_nil] at hb'
    exact h w' hb' hbt)
/-- What memory is amid fill. -/
structure FillI (w : World) (g b : Nat) (T : TypeId) (a : G) (L : List Value) (k : Nat) (wr : World) : Prop where
  row : Blk wr g T (tb a k ++ L.drop (2 * k))
  cur : Blk wr b 72 (ev (mxs k a))
  but : But (· = g) w wr
set_option maxRecDepth 100000 in
set_option maxHeartbeats 1000000 in
theorem fill_any {w : World} {g : Nat} {T : TypeId} {L : List Value} {a : G} (hb : Blk w g T L) (hl : L.length = 256) :
    Calls Try.prog 37 #[.pointer (some ⟨g, 0, none⟩), .agg (ev a).toArray] w fun e w' => e = .returned (.tuple #[]) ∧ Blk w' g T (tb a 128) ∧ But (· = g) w w' := by
  obtain ⟨b, hbb⟩ : ∃ b, b = w.heap.size := ⟨_, rfl⟩
  have hgb : g < b := by rw [hbb]; exact hb.lt
  obtain ⟨C, hC⟩ : ∃ C, C = (ev a).toArray := ⟨_, rfl⟩
  rw [← hC]
  have HC := Hid.mk' hC
  have HB := Hid.mk' hbb
  have HLL := Hid.mk' hl
  have HI0 : Hid (FillI w g b T a L 0 (w.alloc (.cells C 72))) := by
    refine ⟨?_, ?_, (But.refl _ w).alloc _⟩
    · exact hb.but ((But.refl (fun _ => False) w).alloc _) (fun h => h)
    · rw [hC]; exact Blk.new hbb.symm
  clear hC hb hl
  go_enter Try.func37, Try.ntmps37
  go_wp2
  rw [← hbb]
  generalize w.alloc (.cells C 72) = W0 at *
  clear hbb
  go_loopw [5] (fun i wr => ∃ k : Nat, k ≤ 128 ∧ i = .int .i64 k ∧ FillI w g b T a L k wr) (fun i _ => 128 - (intOf i).toNat)
  case atStart => exact ⟨0, by omega, rfl, HI0.out⟩
  case round =>
    obtain ⟨k, hk, rfl, hI⟩ := hrel
    have HI := Hid.mk' hI
    clear hI HI0
    by_cases hlt : k < 128
    · have hki : (k : Int) < 128 := by omega
      go_upto_region 4 with fail
      refine region_class (l := [_, _, _, _, _]) (o := _) (fun w' => But (fun _ => False) wr w') (by kernel_rfl) (by kernel_rfl) (by kernel_rfl) rfl (by kernel_rfl) (by kernel_rfl) ((But.refl _ wr).drew) ?_
      refine class_val _ rfl (fun w' _ => rfl) ?_
      intro K hK; go_simp; refine hK _ ?_; clear hK K
      refine class_val _ rfl (fun w' _ => rfl) ?_
      intro K hK; go_simp; refine hK _ ?_; clear hK K
      refine class_val (.agg (ev (mxs k a)).toArray) rfl (fun w' hw' => run_load_ev (blk_add (HI.out.cur.but hw' (fun h => h))) rfl rfl) ?_
      intro K hK; go_simp; refine hK _ ?_; clear hK K
      refine class_val _ rfl (fun w' _ => rfl) ?_
      intro K hK; go_simp; refine hK _ ?_; clear hK K
      refine class_val (.pointer (some ⟨g, k * 2, none⟩)) rfl (fun w' _ => by go_simp) ?_
      intro K hK; go_simp; refine hK _ ?_; clear hK K
      refine wpQuiet_nil ?_
      intro w5 hw5
      have HR5 : Hid (Blk w5 g T (tb a k ++ (L.drop (2 * k)).take 2 ++ L.drop (2 * k + 2))) := by
        have h := HI.out.row.but hw5 (fun h => h)
        rw [List.append_assoc, ← List.drop_drop, List.take_append_drop]
        exact h
      have HL2 : Hid (((L.drop (2 * k)).take 2).length = 2) := by
        show _ = _
        rw [List.length_take, List.length_drop, HLL.out]; omega
      have HTL : Hid ((tb a k).length = k * 2) := by show _ = _; rw [tb_len]; omega
      have HC5 := Hid.mk' (HI.out.cur.but hw5 (fun h => h))
      have HB5 := Hid.mk' (HI.out.but.then hw5 (fun _ _ h => h.elim))
      obtain ⟨s, hs⟩ : ∃ s, s = mxs k a := ⟨_, rfl⟩
      rw [← hs] at HC5 ⊢
      have HS := Hid.mk' hs
      clear hs
      go_wp2_with (first
        | (refine wpList_store_at rfl 72 _ _ rfl g (k * 2) (ev s) rfl (by exact rfl) T _ _ _ HR5.out HTL.out (by rw [HL2.out, ev_len]) (by rw [i39, ev_len]) (ev_one s) ?_; intro w6 hr6 hb6; have HC6 := Hid.mk' (HC5.out.but hb6 (show ¬ (b = g) by omega)); have HR6 := Hid.mk' hr6; have HB6 := Hid.mk' hb6; clear hr6 hb6)
        | (refine wpList_load_ev rfl _ rfl ⟨b, 0, none⟩ s rfl (blk_add HC6.out) ?_)
        | (go_at_call 63; refine (timesX_any s).mono ?_; rintro e w7 ⟨rfl, hb7⟩; have HC7 := Hid.mk' (HC6.out.but hb7 (fun h => h)); have HB7 := Hid.mk' hb7; clear hb7)
        | (refine wpList_store_ev rfl _ _ rfl b 72 (mx s) s rfl (by exact rfl) HC7.out ?_; intro w8 hc8 hb8))
      refine ⟨⟨k + 1, by omega, by go_num, ?_⟩, by simp [intOf]; omega⟩
      have hsz : w.heap.size = b := HB.out.symm
      refine ⟨?_, ?_, ((HB5.out.then HB6.out (fun _ _ h => h)).then HB7.out (fun _ _ h => h.elim)).then hb8 (fun j hj e => ?_)⟩
      · have h := (HR6.out.but HB7.out (fun h => h)).but hb8 (show ¬ (g = b) by omega)
        rw [HS.out] at h
        exact h
      · rw [HS.out] at hc8
        exact hc8
      · exact absurd (show j = b from e) (by omega)
    · have hkn : k = 128 := by omega
      subst hkn
      go_wp2
      go_end0
      refine ⟨rfl, ?_, HI.out.but⟩
      have h := HI.out.row
      rwa [List.drop_of_length_le (by rw [HLL.out]; decide), List.append_nil] at h
end Go.Proofs.Ythmjdebnjcopnaa
/- ghash: products by the multiples of an element. -/
namespace Go.Proofs.Ythmjdebnjcopnaa
open Go.RowKit

theorem ev_zero : ev 0#128 = [.int .u64 0, .int .u64 0] := by
  unfold ev el
  rw [fw_zero, sw_zero]; rfl
/-- What memory is amid times. -/
structure MulI (w : World) (g b : Nat) (T : TypeId) (h e s : G) (wr : World) : Prop where
  row : Blk wr g T (tb h 128)
  arg : Blk wr b 72 (ev e)
  res : Blk wr (b + 1) 72 (ev 0#128)
  sum : Blk wr (b + 2) 72 (ev s)
  but : But (fun _ => False) w wr
theorem MulI.then {w wr w' : World} {g b : Nat} {T : TypeId} {h e s : G} (i : MulI w g b T h e s wr) (k : But (fun _ => False) wr w') : MulI w g b T h e s w' :=
  ⟨i.row.but k (fun h => h), i.arg.but k (fun h => h), i.res.but k (fun h => h), i.sum.but k (fun h => h), i.but.trans k⟩
theorem MulI.put {w wr w' : World} {g b : Nat} {T : TypeId} {h e s s' : G} (i : MulI w g b T h e s wr) (k : But (· = b + 2) wr w') (hb : Blk w' (b + 2) 72 (ev s')) (h1 : g < b) (h2 : w.heap.size ≤ b) : MulI w g b T h e s' w' :=
  ⟨i.row.but k (show ¬ (g = b + 2) by omega), i.arg.but k (show ¬ (b = b + 2) by omega), i.res.but k (show ¬ (b + 1 = b + 2) by omega), hb, i.but.then k (fun j hj e => by omega)⟩
theorem ev_first {w : World} {b : Nat} {T : TypeId} {e : G} (h : Blk w b T (ev e)) : w.cell? ⟨b, 0, none⟩ = some (.int .u64 (n6 (fw e) : Int)) := h.cell 0
theorem ev_second {w : World} {b : Nat} {T : TypeId} {e : G} (h : Blk w b T (ev e)) : w.cell? ⟨b, 1, none⟩ = some (.int .u64 (n6 (sw e) : Int)) := h.cell 1
set_option maxRecDepth 100000 in
set_option maxHeartbeats 2000000 in
theorem gmul_any {w : World} {g : Nat} {T : TypeId} {h e : G} (hb : Blk w g T (tb h 128)) :
    Calls Try.prog 70 #[.pointer (some ⟨g, 0, none⟩), .agg (ev e).toArray] w fun r w' => r = .returned (.agg (ev (gm e h)).toArray) ∧ But (fun _ => False) w w' := by
  obtain ⟨b, hbb⟩ : ∃ b, b = w.heap.size := ⟨_, rfl⟩
  have hgb : g < b := by rw [hbb]; exact hb.lt
  obtain ⟨C, hC⟩ : ∃ C, C = (ev e).toArray := ⟨_, rfl⟩
  rw [← hC]
  have HB := Hid.mk' hbb
  have HI0 : Hid (MulI w g b T h e (two h e 0) (((w.alloc (.cells C 72)).alloc (.cells #[.int .u64 0, .int .u64 0] 72)).alloc (.cells #[.int .u64 0, .int .u64 0] 72))) := by
    have al : ∀ (x : World) (o : Obj), But (fun _ => False) x (x.alloc o) := fun x o => (But.refl _ x).alloc o
    rw [two_zero, hC]
    refine ⟨((hb.but (al _ _) (fun h => h)).but (al _ _) (fun h => h)).but (al _ _) (fun h => h), ((Blk.new hbb.symm).but (al _ _) (fun h => h)).but (al _ _) (fun h => h), ?_, ?_, (((But.refl _ w).alloc _).alloc _).alloc _⟩
    · rw [ev_zero]
      exact (Blk.new (by simp [hbb])).but (al _ _) (fun h => h)
    · rw [ev_zero]
      exact Blk.new (by simp [hbb])
  clear hC hb
  go_enter Try.func70, Try.ntmps70
  go_wp2
  rw [← hbb, show b + 1 + 1 = b + 2 from rfl]
  generalize (((w.alloc (.cells C 72)).alloc (.cells #[.int .u64 0, .int .u64 0] 72)).alloc (.cells #[.int .u64 0, .int .u64 0] 72)) = W0 at *
  clear hbb
  go_loopw [7] (fun i wr => ∃ k : Nat, k ≤ 64 ∧ i = .int .i64 k ∧ MulI w g b T h e (two h e k) wr) (fun i _ => 64 - (intOf i).toNat)
  case atStart => exact ⟨0, by omega, rfl, HI0.out⟩
  case round =>
    obtain ⟨k, hk, rfl, hI⟩ := hrel
    obtain ⟨s, hs⟩ : ∃ s, s = two h e k := ⟨_, rfl⟩
    rw [← hs] at hI
    have HS := Hid.mk' hs
    have HI := Hid.mk' hI
    clear hI HI0 hs
    by_cases hlt : k < 64
    · have hki : (k : Int) < 64 := by omega
      have hkj : (k : Int) < 128 := by omega
      obtain ⟨m, hm⟩ : ∃ m, m = 64 + k := ⟨_, rfl⟩
      have hmw : IntKind.i64.wrap (64 + (k : Int)) = (m : Int) := by rw [IntKind.wrap_i64, hm]; omega
      have hmj : (m : Int) < 128 := by omega
      have hml : m < 128 := by omega
      obtain ⟨x, hx⟩ : ∃ x, x = fw e <<< k := ⟨_, rfl⟩
      obtain ⟨y, hy⟩ : ∃ y, y = sw e <<< k := ⟨_, rfl⟩
      have hsx := shl_n6 (fw e) k
      have hsy := shl_n6 (sw e) k
      rw [← hx] at hsx
      rw [← hy] at hsy
      have HX : Hid (x.getLsbD 63 = e.getLsbD k) := by show _ = _; rw [hx, fw_top e k hlt]
      have HY : Hid (y.getLsbD 63 = e.getLsbD m) := by show _ = _; rw [hy, sw_top e k hlt, hm]
      obtain ⟨c, hc⟩ : ∃ c, c = cx (e.getLsbD k) (mxs k h) := ⟨_, rfl⟩
      have HCC := Hid.mk' hc
      have HM := Hid.mk' hm
      clear hx hy hc hm
      go_upto_region 5 with fail
      refine region_class (l := [_, _, _, _, _, _, _, _, _, _, _, _, _]) (o := _) (fun w' => But (fun _ => False) wr w') (by kernel_rfl) (by kernel_rfl) (by kernel_rfl) rfl (by kernel_rfl) (by kernel_rfl) ((But.refl _ wr).drew) ?_
      refine class_val (.agg (ev s).toArray) rfl (fun w' hw' => run_load_ev (blk_add (HI.out.then hw').sum) rfl rfl) ?_
      intro K hK; go_simp; refine hK _ ?_; clear hK K
      refine class_val _ rfl (fun w' _ => rfl) ?_
      intro K hK; go_simp; refine hK _ ?_; clear hK K
      refine class_val _ rfl (fun w' _ => rfl) ?_
      intro K hK; go_simp; refine hK _ ?_; clear hK K
      refine class_val _ rfl (fun w' _ => rfl) ?_
      intro K hK; go_simp; refine hK _ ?_; clear hK K
      refine class_val (.pointer (some ⟨g, k * 2, none⟩)) rfl (fun w' _ => by go_simp) ?_
      intro K hK; go_simp; refine hK _ ?_; clear hK K
      refine class_val (.agg (ev (mxs k h)).toArray) rfl (fun w' hw' => run_load_ev (tb_cells (HI.out.then hw').row k (k * 2) (by omega) rfl) rfl rfl) ?_
      intro K hK; go_simp; refine hK _ ?_; clear hK K
      refine class_val (.pointer (some ⟨b, 0, none⟩)) rfl (fun w' _ => by go_simp) ?_
      intro K hK; go_simp; refine hK _ ?_; clear hK K
      refine class_val (.int .u64 (n6 (fw e) : Int)) rfl (fun w' hw' => by have hc := ev_first (HI.out.then hw').arg; go_simp) ?_
      intro K hK; go_simp; refine hK _ ?_; clear hK K
      refine class_val _ rfl (fun w' _ => rfl) ?_
      intro K hK; go_simp; refine hK _ ?_; clear hK K
      refine class_val (.int .u64 (n6 x : Int)) rfl (fun w' _ => by go_simp) ?_
      intro K hK; go_simp; refine hK _ ?_; clear hK K
      refine class_call (.int .u64 (n6 (msk (e.getLsbD k)) : Int)) 88 #[.int .u64 (n6 x : Int)] rfl (fun w' _ => by kernel_rfl) (fun w' hw' => (spread_w x).mono (fun r w'' h => ⟨by rw [h.1, HX.out], by rw [h.2]; exact hw'⟩)) ?_
      intro K hK; go_simp; refine hK _ ?_; clear hK K
      refine class_call (.agg (ev c).toArray) 87 #[.agg (ev (mxs k h)).toArray, .int .u64 (n6 (msk (e.getLsbD k)) : Int)] rfl (fun w' _ => by kernel_rfl) (fun w' hw' => (masked_any (mxs k h) (e.getLsbD k)).mono (fun r w'' h => ⟨by rw [h.1, HCC.out], hw'.trans h.2⟩)) ?_
      intro K hK; go_simp; refine hK _ ?_; clear hK K
      refine class_call (.agg (ev (s ^^^ c)).toArray) 71 #[.agg (ev s).toArray, .agg (ev c).toArray] rfl (fun w' _ => by kernel_rfl) (fun w' hw' => (plus_any s c).mono (fun r w'' h => ⟨h.1, hw'.trans h.2⟩)) ?_
      intro K hK; go_simp; refine hK _ ?_; clear hK K
      refine wpQuiet_nil ?_
      intro w5 hw5
      have HI5 := Hid.mk' (HI.out.then hw5)
      obtain ⟨t, ht⟩ : ∃ t, t = s ^^^ c := ⟨_, rfl⟩
      rw [← ht]
      have HT := Hid.mk' ht
      clear ht
      go_upto_region 6 with (refine wpList_store_ev rfl _ _ rfl (b + 2) 72 t s rfl (by exact rfl) HI5.out.sum ?_; intro w6 hs6 hb6)
      have HI6 := Hid.mk' (HI5.out.put hb6 hs6 hgb (by rw [HB.out]; exact Nat.le_refl _))
      obtain ⟨d, hd⟩ : ∃ d, d = cx (e.getLsbD m) (mxs m h) := ⟨_, rfl⟩
      have HDD := Hid.mk' hd
      clear hd hs6 hb6 HI5 HI
      refine region_class (l := [_, _, _, _, _, _, _, _, _, _, _, _, _, _]) (o := _) (fun w' => But (fun _ => False) w6 w') (by kernel_rfl) (by kernel_rfl) (by kernel_rfl) rfl (by kernel_rfl) (by kernel_rfl) ((But.refl _ w6).drew) ?_
      refine class_val (.agg (ev t).toArray) rfl (fun w' hw' => run_load_ev (blk_add (HI6.out.then hw').sum) rfl rfl) ?_
      intro K hK; go_simp; refine hK _ ?_; clear hK K
      refine class_val _ rfl (fun w' _ => rfl) ?_
      intro K hK; go_simp; refine hK _ ?_; clear hK K
      refine class_val _ rfl (fun w' _ => rfl) ?_
      intro K hK; go_simp; refine hK _ ?_; clear hK K
      refine class_val (.int .i64 (m : Int)) rfl (fun w' _ => by go_simp) ?_
      intro K hK; go_simp; refine hK _ ?_; clear hK K
      refine class_val _ rfl (fun w' _ => rfl) ?_
      intro K hK; go_simp; refine hK _ ?_; clear hK K
      refine class_val (.pointer (some ⟨g, m * 2, none⟩)) rfl (fun w' _ => by go_simp) ?_
      intro K hK; go_simp; refine hK _ ?_; clear hK K
      refine class_val (.agg (ev (mxs m h)).toArray) rfl (fun w' hw' => run_load_ev (tb_cells (HI6.out.then hw').row m (m * 2) hml rfl) rfl rfl) ?_
      intro K hK; go_simp; refine hK _ ?_; clear hK K
      refine class_val (.pointer (some ⟨b, 1, none⟩)) rfl (fun w' _ => by go_simp) ?_
      intro K hK; go_simp; refine hK _ ?_; clear hK K
      refine class_val (.int .u64 (n6 (sw e) : Int)) rfl (fun w' hw' => by have hc := ev_second (HI6.out.then hw').arg; go_simp) ?_
      intro K hK; go_simp; refine hK _ ?_; clear hK K
      refine class_val _ rfl (fun w' _ => rfl) ?_
      intro K hK; go_simp; refine hK _ ?_; clear hK K
      refine class_val (.int .u64 (n6 y : Int)) rfl (fun w' _ => by go_simp) ?_
      intro K hK; go_simp; refine hK _ ?_; clear hK K
      refine class_call (.int .u64 (n6 (msk (e.getLsbD m)) : Int)) 88 #[.int .u64 (n6 y : Int)] rfl (fun w' _ => by kernel_rfl) (fun w' hw' => (spread_w y).mono (fun r w'' h => ⟨by rw [h.1, HY.out], by rw [h.2]; exact hw'⟩)) ?_
      intro K hK; go_simp; refine hK _ ?_; clear hK K
      refine class_call (.agg (ev d).toArray) 87 #[.agg (ev (mxs m h)).toArray, .int .u64 (n6 (msk (e.getLsbD m)) : Int)] rfl (fun w' _ => by kernel_rfl) (fun w' hw' => (masked_any (mxs m h) (e.getLsbD m)).mono (fun r w'' h => ⟨by rw [h.1, HDD.out], hw'.trans h.2⟩)) ?_
      intro K hK; go_simp; refine hK _ ?_; clear hK K
      refine class_call (.agg (ev (t ^^^ d)).toArray) 71 #[.agg (ev t).toArray, .agg (ev d).toArray] rfl (fun w' _ => by kernel_rfl) (fun w' hw' => (plus_any t d).mono (fun r w'' h => ⟨h.1, hw'.trans h.2⟩)) ?_
      intro K hK; go_simp; refine hK _ ?_; clear hK K
      refine wpQuiet_nil ?_
      intro w7 hw7
      have HI7 := Hid.mk' (HI6.out.then hw7)
      obtain ⟨u, hu⟩ : ∃ u, u = t ^^^ d := ⟨_, rfl⟩
      rw [← hu]
      have HU := Hid.mk' hu
      clear hu
      go_wp2_with (refine wpList_store_ev rfl _ _ rfl (b + 2) 72 u t rfl (by exact rfl) HI7.out.sum ?_; intro w8 hs8 hb8)
      refine ⟨⟨k + 1, by omega, by go_num, ?_⟩, by simp [intOf]; omega⟩
      rw [two_next, ← HS.out, ← HCC.out, ← HT.out, ← HM.out, ← HDD.out, ← HU.out]
      exact HI7.out.put hb8 hs8 hgb (by rw [HB.out]; exact Nat.le_refl _)
    · have hkn : k = 64 := by omega
      subst hkn
      go_wp2_with (first
        | (refine wpList_load_ev rfl _ rfl ⟨b + 2, 0, none⟩ s rfl (blk_add HI.out.sum) ?_)
        | (refine wpList_store_ev rfl _ _ rfl (b + 1) 72 s 0#128 rfl (by exact rfl) HI.out.res ?_; intro w9 hs9 hb9))
      refine bodyPost_ret (ret_el rfl _ _ (b + 1) 72 _ _ rfl hs9) rfl ⟨?_, HI.out.but.then hb9 (fun j hj e => by have := HB.out; omega)⟩
      rw [← two_all, ← HS.out]
      rfl
end Go.Proofs.Ythmjdebnjcopnaa
/- ghash: the element of sixteen bytes, and back. -/
namespace Go.Proofs.Ythmjdebnjcopnaa
open Go.RowKit

/-- What memory is amid elementOf. -/
structure OfI (w : World) (b : Nat) (a : List B8) (x y : Nat) (wr : World) : Prop where
  src : Blk wr b 44 (u8s (nts a))
  res : Blk wr (b + 1) 72 (ev 0#128)
  acc : Blk wr (b + 2) 72 [.int .u64 (x : Int), .int .u64 (y : Int)]
  but : But (fun _ => False) w wr
theorem OfI.first {w wr : World} {b : Nat} {a : List B8} {x y : Nat} (i : OfI w b a x y wr) (h : w.heap.size ≤ b) (x' : Nat) : OfI w b a x' y (wr.setCell ⟨b + 2, 0, none⟩ (.int .u64 (x' : Int))) := by
  have k : But (· = b + 2) wr (wr.setCell ⟨b + 2, 0, none⟩ (.int .u64 (x' : Int))) := (But.refl (· = b + 2) wr).setCell (p := ⟨b + 2, 0, none⟩) (fun _ => rfl) _
  exact ⟨i.src.but k (show ¬ (b = b + 2) by omega), i.res.but k (show ¬ (b + 1 = b + 2) by omega), i.acc.set 0 _, i.but.then k (fun j hj e => by omega)⟩
theorem OfI.second {w wr : World} {b : Nat} {a : List B8} {x y : Nat} (i : OfI w b a x y wr) (h : w.heap.size ≤ b) (y' : Nat) : OfI w b a x y' (wr.setCell ⟨b + 2, 1, none⟩ (.int .u64 (y' : Int))) := by
  have k : But (· = b + 2) wr (wr.setCell ⟨b + 2, 1, none⟩ (.int .u64 (y' : Int))) := (But.refl (· = b + 2) wr).setCell (p := ⟨b + 2, 1, none⟩) (fun _ => rfl) _
  exact ⟨i.src.but k (show ¬ (b = b + 2) by omega), i.res.but k (show ¬ (b + 1 = b + 2) by omega), i.acc.set 1 _, i.but.then k (fun j hj e => by omega)⟩
theorem OfI.at {w wr : World} {b : Nat} {a : List B8} {x y : Nat} (i : OfI w b a x y wr) (k : Nat) (hk : k < (nts a).length) : wr.cell? ⟨b, k, none⟩ = some (.int .u8 ((nts a).getD k 0 : Nat)) := by
  rw [i.src.cell, u8s_get _ k hk]
set_option maxRecDepth 100000 in
set_option maxHeartbeats 2000000 in
theorem elementOf_any {w : World} {a : List B8} (ha : a.length = 16) :
    Calls Try.prog 38 #[.agg (u8s (nts a)).toArray] w fun r w' => r = .returned (.agg (ev (toG a)).toArray) ∧ But (fun _ => False) w w' := by
  obtain ⟨b, hbb⟩ : ∃ b, b = w.heap.size := ⟨_, rfl⟩
  obtain ⟨C, hC⟩ : ∃ C, C = (u8s (nts a)).toArray := ⟨_, rfl⟩
  rw [← hC]
  obtain ⟨zs, hzs⟩ : ∃ zs, zs = nts a := ⟨_, rfl⟩
  have HZL : Hid (zs.length = 16) := by show _ = _; rw [hzs, nts_len]; exact ha
  have HZT : Hid (∀ z ∈ zs, z < 256) := by rw [hzs]; exact nts_lt a
  have HZS := Hid.mk' hzs
  have HB := Hid.mk' hbb
  have HI0 : Hid (OfI w b a (val (zs.take 0)) 0 (((w.alloc (.cells C 44)).alloc (.cells #[.int .u64 0, .int .u64 0] 72)).alloc (.cells #[.int .u64 0, .int .u64 0] 72))) := by
    have al : ∀ (x : World) (o : Obj), But (fun _ => False) x (x.alloc o) := fun x o => (But.refl _ x).alloc o
    rw [hC]
    refine ⟨((Blk.new hbb.symm).but (al _ _) (fun h => h)).but (al _ _) (fun h => h), ?_, ?_, (((But.refl _ w).alloc _).alloc _).alloc _⟩
    · rw [ev_zero]
      exact (Blk.new (by simp [hbb])).but (al _ _) (fun h => h)
    · exact Blk.new (by simp [hbb])
  have HA := Hid.mk' ha
  clear hC hzs ha
  go_enter Try.func38, Try.ntmps38
  go_wp2
  rw [← hbb, show b + 1 + 1 = b + 2 from rfl]
  generalize (((w.alloc (.cells C 44)).alloc (.cells #[.int .u64 0, .int .u64 0] 72)).alloc (.cells #[.int .u64 0, .int .u64 0] 72)) = W0 at *
  clear hbb
  go_loopw [10] (fun i wr => ∃ k : Nat, k ≤ 8 ∧ i = .int .i64 k ∧ OfI w b a (val (zs.take k)) 0 wr) (fun i _ => 8 - (intOf i).toNat)
  case atStart => exact ⟨0, by omega, rfl, HI0.out⟩
  case round =>
    obtain ⟨k, hk, rfl, hI⟩ := hrel
    obtain ⟨n, hn⟩ : ∃ n, n = val (zs.take k) := ⟨_, rfl⟩
    rw [← hn] at hI
    have HN := Hid.mk' hn
    have HI := Hid.mk' hI
    clear hI HI0
    by_cases hlt : k < 8
    · have hki : (k : Int) < 8 := by omega
      have hnl : n < 72057594037927936 := by
        have h1 := val_lt zs HZT.out k (by rw [HZL.out]; omega)
        have h2 : 256 ^ k ≤ 256 ^ 7 := Nat.pow_le_pow_right (by decide) (by omega)
        rw [← hn] at h1
        exact Nat.lt_of_lt_of_le h1 h2
      obtain ⟨z, hz⟩ : ∃ z, z = zs.getD k 0 := ⟨_, rfl⟩
      have hzl : z < 256 := by rw [hz]; exact HZT.out _ (getD_mem zs k (by rw [HZL.out]; omega))
      have c1 : wr.cell? ⟨b, k, none⟩ = some (.int .u8 (z : Int)) := by
        rw [HI.out.at k (by rw [← HZS.out, HZL.out]; omega), hz, HZS.out]
      have c2 : wr.cell? ⟨b + 2, 0, none⟩ = some (.int .u64 (n : Int)) := HI.out.acc.cell 0
      have f2 : wr.frozen? ⟨b + 2, 0, none⟩ = false := HI.out.acc.free 0
      have ho := shl_or n z hnl hzl
      have HZ := Hid.mk' hz
      clear hz hn
      go_wp2
      refine ⟨⟨k + 1, by omega, by go_num, ?_⟩, by simp [intOf]; omega⟩
      have e : val (zs.take (k + 1)) = 256 * n + z := by rw [val_next zs k (by rw [HZL.out]; omega), ← HN.out, ← HZ.out]
      have h := HI.out.first (by rw [HB.out]; exact Nat.le_refl _) (256 * n + z)
      rw [e]
      push_cast at h
      exact h
    · have hkn : k = 8 := by omega
      subst hkn
      have HX : Hid (n = n6 (fw (toG a))) := by
        show _ = _
        rw [hn, HZS.out]; exact (fw_val HA.out).symm
      clear hn HN
      have hcast : ((8 : Nat) : Int) = 8 := rfl
      rw [hcast]
      go_wp2
      obtain ⟨ys, hys⟩ : ∃ ys, ys = zs.drop 8 := ⟨_, rfl⟩
      have HYL : Hid (ys.length = 8) := by show _ = _; rw [hys, List.length_drop, HZL.out]
      have HYT : Hid (∀ z ∈ ys, z < 256) := by
        rw [hys]
        exact fun z hz => HZT.out z (List.mem_of_mem_drop hz)
      have HYS := Hid.mk' hys
      clear hys
      go_loopw [24] (fun i wr => ∃ k : Nat, k ≤ 8 ∧ i = .int .i64 k ∧ OfI w b a n (val (ys.take k)) wr) (fun i _ => 8 - (intOf i).toNat)
      case atStart => exact ⟨0, by omega, rfl, HI.out⟩
      case round =>
        obtain ⟨k, hk, rfl, hI⟩ := hrel
        obtain ⟨m, hm⟩ : ∃ m, m = val (ys.take k) := ⟨_, rfl⟩
        rw [← hm] at hI
        have HM := Hid.mk' hm
        have HJ := Hid.mk' hI
        clear hI HI
        by_cases hlt : k < 8
        · have hki : (k : Int) < 8 := by omega
          have hml : m < 72057594037927936 := by
            have h1 := val_lt ys HYT.out k (by rw [HYL.out]; omega)
            have h2 : 256 ^ k ≤ 256 ^ 7 := Nat.pow_le_pow_right (by decide) (by omega)
            rw [← hm] at h1
            exact Nat.lt_of_lt_of_le h1 h2
          obtain ⟨z, hz⟩ : ∃ z, z = ys.getD k 0 := ⟨_, rfl⟩
          have hzl : z < 256 := by rw [hz]; exact HYT.out _ (getD_mem ys k (by rw [HYL.out]; omega))
          have c1 : wr.cell? ⟨b, 8 + k, none⟩ = some (.int .u8 (z : Int)) := by
            rw [HJ.out.at (8 + k) (by rw [← HZS.out, HZL.out]; omega), hz, HYS.out, ← HZS.out]
            unfold List.getD
            rw [List.getElem?_drop]
          have c2 : wr.cell? ⟨b + 2, 1, none⟩ = some (.int .u64 (m : Int)) := HJ.out.acc.cell 1
          have f2 : wr.frozen? ⟨b + 2, 1, none⟩ = false := HJ.out.acc.free 1
          have ho := shl_or m z hml hzl
          have HZ := Hid.mk' hz
          clear hz hm
          go_wp2
          refine ⟨⟨k + 1, by omega, by go_num, ?_⟩, by simp [intOf]; omega⟩
          have e : val (ys.take (k + 1)) = 256 * m + z := by rw [val_next ys k (by rw [HYL.out]; omega), ← HM.out, ← HZ.out]
          have h := HJ.out.second (by rw [HB.out]; exact Nat.le_refl _) (256 * m + z)
          rw [e]
          push_cast at h
          exact h
        · have hkn : k = 8 := by omega
          subst hkn
          have HY : Hid (m = n6 (sw (toG a))) := by
            show _ = _
            rw [hm, HYS.out, HZS.out]; exact (sw_val HA.out).symm
          have HE : Hid (Blk wr (b + 2) 72 (ev (toG a))) := by
            have h := HJ.out.acc
            rw [HX.out, HY.out] at h
            exact h
          clear hm HM
          obtain ⟨s, hs⟩ : ∃ s, s = toG a := ⟨_, rfl⟩
          rw [← hs] at HE
          have HS := Hid.mk' hs
          clear hs
          go_wp2_with (first
            | (refine wpList_load_ev rfl _ rfl ⟨b + 2, 0, none⟩ s rfl (blk_add HE.out) ?_)
            | (refine wpList_store_ev rfl _ _ rfl (b + 1) 72 s 0#128 rfl (by exact rfl) HJ.out.res ?_; intro w9 hs9 hb9))
          refine bodyPost_ret (ret_el rfl _ _ (b + 1) 72 _ _ rfl hs9) rfl ⟨?_, HJ.out.but.then hb9 (fun j hj e => by have := HB.out; omega)⟩
          rw [← HS.out]
          rfl
end Go.Proofs.Ythmjdebnjcopnaa
/- ghash: the bytes of two words, and of an element; Times. -/
namespace Go.Proofs.Ythmjdebnjcopnaa
open Go.RowKit

theorem be_snoc (N : Nat) : ∀ k, be N (k + 1) = be (N / 256) k ++ [N % 256]
  | 0 => by simp [be]
  | k + 1 => by
    show (N / 256 ^ (k + 1) % 256) :: be N (k + 1) = (N / 256 / 256 ^ k % 256) :: be (N / 256) k ++ [N % 256]
    rw [be_snoc N k, Nat.div_div_eq_div_mul, Nat.pow_succ, Nat.mul_comm (256 ^ k) 256]
    rfl
theorem be_val (zs : List Nat) (hz : ∀ z ∈ zs, z < 256) : ∀ k, k ≤ zs.length → be (val (zs.take k)) k = zs.take k
  | 0, _ => by simp [be]
  | k + 1, h => by
    have h1 : zs.getD k 0 < 256 := hz _ (getD_mem zs k (by omega))
    rw [be_snoc, val_next zs k (by omega), show (256 * val (zs.take k) + zs.getD k 0) / 256 = val (zs.take k) by omega, show (256 * val (zs.take k) + zs.getD k 0) % 256 = zs.getD k 0 by omega, be_val zs hz k (by omega), take_next' zs k (by omega)]
theorem be_words (g : G) : be (n6 (fw g)) 8 ++ be (n6 (sw g)) 8 = nts (ofG g) := by
  have h1 := fw_val (ofG_len g)
  have h2 := sw_val (ofG_len g)
  rw [toG_ofG] at h1 h2
  have hl : (nts (ofG g)).length = 16 := by rw [nts_len, ofG_len]
  unfold n6
  rw [h1, h2, be_val _ (nts_lt _) 8 (by omega), be_val _ (fun z hz => nts_lt _ z (List.mem_of_mem_drop hz)) 8 (by rw [List.length_drop]; omega)]
  rw [List.take_of_length_le (l := (nts (ofG g)).drop 8) (by rw [List.length_drop]; omega), List.take_append_drop]
theorem be_last (a t : Nat) : be (8 * a) 8 ++ be (8 * t) 8 = lastB a t := by
  simp [be, lastB, lenB, List.range, List.range.loop]
theorem arr16 (w : World) (a : Addr) (c : Nat) : Sem.run Try.prog (Instr.arrayAt 44 (.slice (some a) 16 c)) w = .ok (.pointer (some a)) w := by kernel_rfl
set_option maxRecDepth 100000 in
set_option maxHeartbeats 1000000 in
theorem gblockOf_any {w : World} (x y : Nat) (hx : x < 18446744073709551616) (hy : y < 18446744073709551616) :
    Calls Try.prog 73 #[.int .u64 (x : Int), .int .u64 (y : Int)] w fun r w' => r = .returned (.agg (u8s (be x 8 ++ be y 8)).toArray) ∧ But (fun _ => False) w w' := by
  obtain ⟨b, hbb⟩ : ∃ b, b = w.heap.size := ⟨_, rfl⟩
  have hz := zeroG
  obtain ⟨Z, hZ⟩ : ∃ Z, Z = (u8s (List.replicate 16 0)).toArray := ⟨_, rfl⟩
  rw [← hZ] at hz
  obtain ⟨W0, hW0⟩ : ∃ W0, W0 = w.alloc (.cells Z 44) := ⟨_, rfl⟩
  have HT0 : Hid (But (fun _ => False) w W0) := by rw [hW0]; exact (But.refl _ w).alloc _
  have HR0 : Hid (Blk W0 b 44 (u8s (List.replicate 16 0))) := by rw [hW0, hZ]; exact Blk.new hbb.symm
  have HB := Hid.mk' hbb
  have HW := Hid.mk' hW0
  have HP1 := Hid.mk' (put_ok (Bs.nil W0) (by decide) x 8 (by decide) (by decide) (by omega))
  have HYB := Hid.mk' hy
  clear hbb hW0 hZ hx hy
  go_enter Try.func73, Try.ntmps73
  go_wp2_with fail
  rw [← HW.out, ← HB.out]
  refine Calls.mono HP1.out ?_
  rintro e w1 ⟨v1, rfl, ho1, hb1⟩
  rw [List.nil_append] at ho1
  have HT1 : Hid (But (fun _ => False) W0 w1) := But.of hb1
  have HP2 := Hid.mk' (put_ok ho1.bs (by rw [be_len]; decide) y 8 (by decide) (by decide) (by have := HYB.out; omega))
  clear ho1 hb1 HP1
  go_wp2_with fail
  refine Calls.mono HP2.out ?_
  rintro e w2 ⟨v2, rfl, ho2, hb2⟩
  have HT2 : Hid (But (fun _ => False) w1 w2) := But.of hb2
  obtain ⟨zs, hzs⟩ : ∃ zs, zs = be x 8 ++ be y 8 := ⟨_, rfl⟩
  rw [← hzs] at ho2
  have HZL : Hid (zs.length = 16) := by show _ = _; rw [hzs, List.length_append, be_len, be_len]
  obtain ⟨ao, c2, rfl, hno, hc2⟩ := ho2.bs.gen
  rw [HZL.out] at hno
  obtain ⟨ad, rfl⟩ : ∃ ad, ao = some ad := by
    cases ao with
    | none => exact absurd (hno rfl).1 (by decide)
    | some ad => exact ⟨ad, rfl⟩
  have HCC := Hid.mk' (hc2 ad rfl)
  have ha := arr16 w2 ad c2
  rw [HZL.out]
  have HR2 := Hid.mk' ((HR0.out.but HT1.out (fun h => h)).but HT2.out (fun h => h))
  have HZS := Hid.mk' hzs
  clear hzs ho2 hb2 hno hc2 HP2
  go_wp2_with (first
    | (refine wpList_load_cells rfl _ _ rfl ad rfl (u8s zs) _ HCC.out Try.underlying44 rfl (by rw [i16g]; simp [u8s, HZL.out]) ?_)
    | (refine wpList_store_u8s i16g rfl _ _ rfl b zs HZL.out rfl (by exact rfl) _ (by simp [u8s]) HR2.out ?_; intro w9 hb9 hbut9))
  refine bodyPost_ret (results_cell_row rfl _ _ b _ _ _ _ rfl hb9 Try.underlying44 rfl (by rw [i16g]; simp [u8s, HZL.out])) rfl ⟨by rw [← HZS.out], ?_⟩
  exact ((HT0.out.trans HT1.out).trans HT2.out).then hbut9 (fun j hj e => by have := HB.out; omega)
end Go.Proofs.Ythmjdebnjcopnaa
/- ghash: Times and New; Sum of no key. -/
namespace Go.Proofs.Ythmjdebnjcopnaa
open Go.RowKit

set_option maxRecDepth 100000 in
set_option maxHeartbeats 1000000 in
theorem block_any {w : World} (g : G) :
    Calls Try.prog 75 #[.agg (ev g).toArray] w fun r w' => r = .returned (.agg (u8s (nts (ofG g))).toArray) ∧ But (fun _ => False) w w' := by
  obtain ⟨b, hbb⟩ : ∃ b, b = w.heap.size := ⟨_, rfl⟩
  have hz := zeroG
  obtain ⟨Z, hZ⟩ : ∃ Z, Z = (u8s (List.replicate 16 0)).toArray := ⟨_, rfl⟩
  rw [← hZ] at hz
  obtain ⟨C, hC⟩ : ∃ C, C = (ev g).toArray := ⟨_, rfl⟩
  rw [← hC]
  obtain ⟨W0, hW0⟩ : ∃ W0, W0 = (w.alloc (.cells C 72)).alloc (.cells Z 44) := ⟨_, rfl⟩
  have al : ∀ (x : World) (o : Obj), But (fun _ => False) x (x.alloc o) := fun x o => (But.refl _ x).alloc o
  have HT0 : Hid (But (fun _ => False) w W0) := by rw [hW0]; exact (al _ _).alloc _
  have hA0 : Blk W0 b 72 (ev g) := by rw [hW0, hC]; exact (Blk.new hbb.symm).but (al _ _) (fun h => h)
  have HR0 : Hid (Blk W0 (b + 1) 44 (u8s (List.replicate 16 0))) := by rw [hW0, hZ]; exact Blk.new (by simp [hbb])
  have c1 := ev_first hA0
  have c2 := ev_second hA0
  rw [hW0, hbb] at c1 c2
  have HB := Hid.mk' hbb
  have HW := Hid.mk' hW0
  have HP := Hid.mk' (gblockOf_any (w := W0) (n6 (fw g)) (n6 (sw g)) (n6_lt _) (n6_lt _))
  rw [be_words] at HP
  obtain ⟨zs, hzs⟩ : ∃ zs, zs = nts (ofG g) := ⟨_, rfl⟩
  rw [← hzs] at HP ⊢
  have HZL : Hid (zs.length = 16) := by show _ = _; rw [hzs, nts_len, ofG_len]
  clear hbb hW0 hZ hC hA0 hzs al
  go_enter Try.func75, Try.ntmps75
  go_wp2_with fail
  rw [← HW.out, ← HB.out]
  refine Calls.mono HP.out ?_
  rintro e w1 ⟨rfl, hb1⟩
  have HR1 := Hid.mk' (HR0.out.but hb1 (fun h => h))
  have HT1 := Hid.mk' (HT0.out.trans hb1)
  clear hb1 HP c1 c2
  go_wp2_with (refine wpList_store_u8s i16g rfl _ _ rfl (b + 1) zs HZL.out rfl (by exact rfl) _ (by simp [u8s]) HR1.out ?_; intro w9 hb9 hbut9)
  refine bodyPost_ret (results_cell_row rfl _ _ (b + 1) _ _ _ _ rfl hb9 Try.underlying44 rfl (by rw [i16g]; simp [u8s, HZL.out])) rfl ⟨rfl, ?_⟩
  exact HT1.out.then hbut9 (fun j hj e => by have := HB.out; omega)
/-- Room for the multiples. -/
def nought : List Value := List.replicate 256 (.int .u64 0)
theorem zeroM (w : World) : (zeroValue 74).run Try.prog w = .ok (.agg nought.toArray) w := by kernel_rfl
/-- A key in memory: its multiples. -/
def Ky (w : World) (gk : Nat) (h : List B8) : Prop := Blk w gk 76 (tb (toG h) 128)
theorem Ky.but {R : Nat → Prop} {w w' : World} {gk : Nat} {h : List B8} (k : Ky w gk h) (b : But R w w') (hr : ¬ R gk) : Ky w' gk h := Blk.but k b hr
theorem Ky.lt {w : World} {gk : Nat} {h : List B8} (k : Ky w gk h) : gk < w.heap.size := Blk.lt k
theorem zeroKy (w : World) : (zeroValue 76).run Try.prog w = .ok (.agg nought.toArray) w := by kernel_rfl
set_option maxRecDepth 100000 in
set_option maxHeartbeats 1000000 in
theorem pnew_any {w : World} {h : List B8} (hh : h.length = 16) :
    Calls Try.prog 24 #[.agg (u8s (nts h)).toArray] w fun e w' => ∃ gk, e = .returned (.pointer (some ⟨gk, 0, none⟩)) ∧ Ky w' gk h ∧ w.heap.size ≤ gk ∧ But (fun _ => False) w w' := by
  obtain ⟨g, hg⟩ : ∃ g, g = w.heap.size := ⟨_, rfl⟩
  have hz2 := zeroKy
  obtain ⟨M, hM⟩ : ∃ M, M = nought.toArray := ⟨_, rfl⟩
  rw [← hM] at hz2
  obtain ⟨A, hA⟩ : ∃ A, A = (u8s (nts h)).toArray := ⟨_, rfl⟩
  rw [← hA]
  obtain ⟨W0, hW0⟩ : ∃ W0, W0 = (w.alloc (.cells A 44)).alloc (.cells M 76) := ⟨_, rfl⟩
  have al : ∀ (x : World) (o : Obj), But (fun _ => False) x (x.alloc o) := fun x o => (But.refl _ x).alloc o
  have HT0 : Hid (But (fun _ => False) w W0) := by rw [hW0]; exact (al _ _).alloc _
  have HA0 : Hid (Blk W0 g 44 (u8s (nts h))) := by rw [hW0, hA]; exact (Blk.new hg.symm).but (al _ _) (fun h => h)
  have HM0 : Hid (Blk W0 (g + 1) 76 nought) := by rw [hW0, hM]; exact Blk.new (by simp [hg])
  have HG := Hid.mk' hg
  have HW := Hid.mk' hW0
  have HAL : Hid ((nts h).length = 16) := by show _ = _; rw [nts_len]; exact hh
  have HH := Hid.mk' hh
  clear hg hW0 hM hA al hh
  go_enter Try.func24, Try.ntmps24
  go_upto_region 2 with fail
  rw [← HW.out, ← HG.out]
  refine region_class (l := [_, _, _, _, _]) (o := _) (fun w' => But (fun _ => False) W0 w') (by kernel_rfl) (by kernel_rfl) (by kernel_rfl) rfl (by kernel_rfl) (by kernel_rfl) ((But.refl _ W0).drew) ?_
  refine class_val _ rfl (fun w' _ => rfl) ?_
  intro K hK; go_simp; refine hK _ ?_; clear hK K
  refine class_val _ rfl (fun w' _ => rfl) ?_
  intro K hK; go_simp; refine hK _ ?_; clear hK K
  refine class_val (.pointer (some ⟨g + 1, 0, none⟩)) rfl (fun w' _ => by go_simp) ?_
  intro K hK; go_simp; refine hK _ ?_; clear hK K
  refine class_val (.agg (u8s (nts h)).toArray) rfl (fun w' hw' => run_load16 HAL.out (blk_add (HA0.out.but hw' (fun h => h))) rfl rfl) ?_
  intro K hK; go_simp; refine hK _ ?_; clear hK K
  refine class_call (.agg (ev (toG h)).toArray) 38 #[.agg (u8s (nts h)).toArray] rfl (fun w' _ => by kernel_rfl) (fun w' hw' => (elementOf_any HH.out).mono (fun r w'' h => ⟨h.1, hw'.trans h.2⟩)) ?_
  intro K hK; go_simp; refine hK _ ?_; clear hK K
  refine wpQuiet_nil ?_
  intro w1 hw1
  have HF := Hid.mk' (fill_any (a := toG h) (HM0.out.but hw1 (fun h => h)) (by decide))
  have HT1 := Hid.mk' (HT0.out.trans hw1)
  clear hw1 HT0 HA0 HM0 HW
  go_wp2_with fail
  refine Calls.mono HF.out ?_
  rintro e w2 ⟨rfl, hm2, hb2⟩
  have HM2 := Hid.mk' hm2
  have HT2 := Hid.mk' (HT1.out.then hb2 (fun j hj e => by have := HG.out; omega))
  clear hm2 hb2 HF HT1
  go_wp2
  go_ret
  exact ⟨g + 1, rfl, HM2.out, by rw [HG.out]; omega, HT2.out⟩
set_option maxRecDepth 100000 in
set_option maxHeartbeats 1000000 in
theorem psum_nil {w : World} {v1 v2 : Value} :
    Calls Try.prog 50 #[.pointer none, v1, v2] w fun e w' => e = .returned (.agg (u8s (List.replicate 16 0)).toArray) ∧ But (fun _ => False) w w' := by
  go_enter Try.func50, Try.ntmps50
  go_wp2
  refine bodyPost_ret (results_cell_row rfl _ _ (w.heap.size + 1) 44 (u8s (List.replicate 16 0)).toArray (0, 0) _ rfl (Blk.new (by simp)) Try.underlying44 rfl (by rw [i16g]; simp [u8s])) rfl ⟨rfl, ((But.refl _ w).alloc _).alloc _⟩
end Go.Proofs.Ythmjdebnjcopnaa
/- Bytes copied into a row; a slice of bytes cut at its front. -/
namespace Go.Proofs.Ythmjdebnjcopnaa
open Go.RowKit

/-- Bytes copied into a row. -/
theorem run_copy_blk {w : World} {g off dLen dCap sCap b so n : Nat} {t : TypeId} {A old B : List Value} {ys : List Nat} (ty : TypeId) (hb : Blk w g t (A ++ old ++ B)) (hA : A.length = off) (hold : old.length = n)
    (hn : n = Nat.min ys.length dLen) (hc : ∀ i, i < ys.length → w.cell? ⟨b, so + i, none⟩ = some (.int .u8 (ys.getD i 0 : Nat))) :
    (Builtin.copy_ #[22, 22] ty #[.slice (some ⟨g, off, none⟩) dLen dCap, .slice (some ⟨b, so, none⟩) ys.length sCap]).run Try.prog w = .ok (.int .i64 (n : Int)) (w.setRow g (A ++ u8s (ys.take n) ++ B).toArray) := by
  have hle : n ≤ ys.length := by rw [hn]; exact Nat.min_le_left _ _
  have hlen : (u8s (ys.take n)).length = n := by simp [u8s]; omega
  have hsz : (Try.prog.info? 5).map (·.size) = some 1 := by kernel_rfl
  have hr := run_copy_row (P := Try.prog) w 22 22 ty 5 g off dLen dCap ⟨b, so, none⟩ ys.length sCap _ t (u8s (ys.take n)) Try.underlying22 hsz hb (by rw [hlen]; exact hn)
    (by
      intro j v hv
      have hj : j < n := by have := (List.getElem?_eq_some_iff.1 hv).1; omega
      have e : (⟨b, so, none⟩ : Addr).add j = ⟨b, so + j, none⟩ := by simp [Addr.add]
      rw [e, hc j (by omega), ← hv, u8s_get _ j (by simp; omega)]
      simp [List.getD, hj]) (by rw [hlen]; simp; omega) (u8s_one _)
  have e : (A ++ old ++ B).toArray.toList.take off ++ u8s (ys.take n) ++ (A ++ old ++ B).toArray.toList.drop (off + (u8s (ys.take n)).length) = A ++ u8s (ys.take n) ++ B := by
    subst hA
    rw [hlen, ← hold]
    simp [List.drop_append]
  rw [e, hlen] at hr
  exact hr
theorem Bs.cut {w : World} {b so m cap n : Nat} {ys : List Nat} (h : Bs w (.slice (some ⟨b, so, none⟩) m cap) ys) (hm : ys.length = m) (h0 : 0 < m) (hn : n ≤ m) (hc : m ≤ cap) :
    ∃ p', (∀ w0 : World, (Instr.sliceAt 22 (.slice (some ⟨b, so, none⟩) m cap) (some (.int .i64 (n : Int))) none none).run Try.prog w0 = .ok p' w0) ∧ Bs w p' (ys.drop n) ∧ p'.ownBlock = some b ∧ ∃ so' cap', p' = .slice (some ⟨b, so', none⟩) (m - n) cap' := by
  have hu : Try.prog.underlying 22 = some (.slice (Try.prog.elem 22)) := by kernel_rfl
  have he : Try.prog.elem 22 = 5 := by kernel_rfl
  have hs : ∀ w0 : World, (sizeOf 5).run Try.prog w0 = .ok 1 w0 := fun w0 => by kernel_rfl
  obtain ⟨h1, h2, ⟨rfl, _⟩ | ⟨h3, b', so1, cap', e, hcap, hb, hcell⟩⟩ := h
  · simp at hm; omega
  simp only [Value.slice.injEq, Option.some.injEq, Addr.mk.injEq, and_true] at e
  obtain ⟨⟨rfl, rfl⟩, _, rfl⟩ := e
  refine ⟨.slice (some (if cap = n then ⟨b, so, none⟩ else ⟨b, so + n, none⟩)) (m - n) (cap - n), ?_, ?_, ?_, ?_⟩
  · intro w0
    rw [run_sliceAt_slice _ _ _ _ _ _ hu, run_slice_l w0 _ _ _ _ hu .i64 (n : Int) (by omega) (by omega), he, hs]
    by_cases hcn : cap = n <;> simp [Result.andThen, sliced, hcn, Addr.add]
  · refine ⟨fun z hz => h1 z (List.mem_of_mem_drop hz), by simp; omega, ?_⟩
    by_cases hmn : m = n
    · left
      refine ⟨by rw [List.drop_eq_nil_iff]; omega, .inr ⟨_, cap - n, by rw [hmn, Nat.sub_self]⟩⟩
    · right
      have hcn : ¬ cap = n := by omega
      refine ⟨by simp; omega, b, so + n, cap - n, by simp [hcn, hm], by simp; omega, hb, fun i hi => ?_⟩
      have hi' : n + i < ys.length := by simp at hi; omega
      have := hcell (n + i) hi'
      rw [Nat.add_assoc, this]
      simp [List.getD]
  · by_cases hcn : cap = n <;> simp [Value.ownBlock, hcn]
  · by_cases hcn : cap = n
    · exact ⟨so, cap - n, by simp [hcn]⟩
    · exact ⟨so + n, cap - n, by simp [hcn]⟩
theorem Bs.front {w : World} {ao : Option Addr} {l cap n : Nat} {zs : List Nat} (h : Bs w (.slice ao l cap) zs) (hn : n ≤ zs.length) (hao : ao = none → cap = 0) : Bs w (.slice ao n cap) (zs.take n) := by
  obtain ⟨h1, h2, h3⟩ := h
  refine ⟨fun z hz => h1 z (List.mem_of_mem_take hz), by rw [List.length_take]; omega, ?_⟩
  by_cases h0 : n = 0
  · subst h0
    refine .inl ⟨rfl, ?_⟩
    cases ao with
    | none => rw [hao rfl]; exact .inl rfl
    | some a => exact .inr ⟨a, cap, rfl⟩
  · rcases h3 with ⟨rfl, _⟩ | ⟨_, b, off, cap', e, hcap, hb, hc⟩
    · simp at hn; omega
    · simp only [Value.slice.injEq] at e
      obtain ⟨rfl, _, rfl⟩ := e
      have hl : (zs.take n).length = n := by rw [List.length_take]; omega
      refine .inr ⟨by omega, b, off, cap, by rw [hl], by omega, hb, fun i hi => ?_⟩
      rw [hl] at hi
      rw [hc i (by omega)]
      simp [List.getD, hi]
end Go.Proofs.Ythmjdebnjcopnaa
/- ghash: a block taken into a sum; the blocks of bytes, one by one. -/
namespace Go.Proofs.Ythmjdebnjcopnaa
open Go.RowKit

/-- A sum that goes on from y. -/
def gF (h y : G) (L : List Nat) : Nat → G
  | 0 => y
  | k + 1 => gm (gF h y L k ^^^ toG (blkAt L k)) h
theorem gF_zero (h : G) (L : List Nat) : ∀ k, gF h 0#128 L k = gsG h L k
  | 0 => rfl
  | k + 1 => by show gm (gF h 0#128 L k ^^^ _) h = gm (gsG h L k ^^^ _) h; rw [gF_zero h L k]
theorem blk_front (A R : List Nat) (k n : Nat) (hA : A.length = n * 16) (hk : k < n) : blkAt (A ++ R) k = blkAt A k := by
  unfold blkAt
  refine mk16_congr (fun i hi => ?_)
  unfold List.getD
  rw [List.getElem?_append_left (by omega)]
theorem blk_back (A R : List Nat) (k n : Nat) (hA : A.length = n * 16) : blkAt (A ++ R) (n + k) = blkAt R k := by
  unfold blkAt
  refine mk16_congr (fun i hi => ?_)
  unfold List.getD
  rw [List.getElem?_append_right (by omega), show 16 * (n + k) + i - A.length = 16 * k + i by omega]
theorem gsG_front (h : G) (A R : List Nat) (n : Nat) (hA : A.length = n * 16) : ∀ k, k ≤ n → gsG h (A ++ R) k = gsG h A k
  | 0, _ => rfl
  | k + 1, hk => by
    show gm (gsG h (A ++ R) k ^^^ toG (blkAt (A ++ R) k)) h = gm (gsG h A k ^^^ toG (blkAt A k)) h
    rw [gsG_front h A R n hA k (by omega), blk_front A R k n hA (by omega)]
theorem gsG_back (h : G) (A R : List Nat) (n : Nat) (hA : A.length = n * 16) : ∀ k, gsG h (A ++ R) (n + k) = gF h (gsG h A n) R k
  | 0 => gsG_front h A R n hA n (Nat.le_refl _)
  | k + 1 => by
    show gm (gsG h (A ++ R) (n + k) ^^^ toG (blkAt (A ++ R) (n + k))) h = gm (gF h (gsG h A n) R k ^^^ toG (blkAt R k)) h
    rw [gsG_back h A R n hA k, blk_back A R k n hA]
theorem gsum_parts (h : List B8) (aad text : List Nat) : toG (gsum h aad text) = gm (gF (toG h) (gF (toG h) 0#128 (padB aad) (nblk aad.length)) (padB text) (nblk text.length) ^^^ toG (blkAt (lastB aad.length text.length) 0)) (toG h) := by
  unfold gsum gall
  rw [toG_sum, gsG_back _ _ _ (nblk aad.length + nblk text.length) (by rw [List.length_append, padB_len, padB_len]; omega) 1]
  show gm (gsG (toG h) (padB aad ++ padB text) (nblk aad.length + nblk text.length) ^^^ _) _ = _
  rw [gsG_back _ _ _ (nblk aad.length) (padB_len aad), gF_zero]
theorem blk_bytes (zs : List Nat) (hz : ∀ z ∈ zs, z < 256) (k : Nat) : (zs.drop (16 * k)).take 16 ++ List.replicate (16 - (zs.drop (16 * k)).length) 0 = nts (blkAt (padB zs) k) := by
  apply List.ext_getElem?
  intro i
  by_cases hi : i < 16
  · rw [nts_at _ i (by rw [blkAt_len]; exact hi)]
    unfold blkAt
    rw [mk16_at _ i hi, b8_of _ (by
      by_cases h : 16 * k + i < (padB zs).length
      · exact padB_lt hz _ (getD_mem _ _ h)
      · simp [List.getD, h])]
    unfold padB List.getD
    by_cases h : 16 * k + i < zs.length
    · rw [List.getElem?_append_left (by rw [List.length_take, List.length_drop]; omega), List.getElem?_take, if_pos hi, List.getElem?_drop, List.getElem?_append_left h]
      simp [h]
    · rw [List.getElem?_append_right (by rw [List.length_take, List.length_drop]; omega), List.getElem?_append_right (by omega), List.getElem?_replicate, List.getElem?_replicate, List.length_take, List.length_drop]
      rw [if_pos (by omega)]
      split <;> rfl
  · rw [List.getElem?_eq_none (by rw [List.length_append, List.length_take, List.length_replicate, List.length_drop]; omega), List.getElem?_eq_none (by rw [nts_len, blkAt_len]; omega)]
theorem last_bytes (a t : Nat) : nts (blkAt (lastB a t) 0) = lastB a t := by
  apply List.ext_getElem?
  intro i
  by_cases hi : i < 16
  · rw [nts_at _ i (by rw [blkAt_len]; exact hi)]
    unfold blkAt
    have hl : 16 * 0 + i < (lastB a t).length := by rw [lastB_len]; omega
    rw [mk16_at _ i hi, b8_of _ (lastB_lt a t _ (getD_mem _ _ hl))]
    unfold List.getD
    rw [Nat.mul_zero, Nat.zero_add] at hl ⊢
    simp [hl]
  · rw [List.getElem?_eq_none (by rw [nts_len, blkAt_len]; omega), List.getElem?_eq_none (by rw [lastB_len]; omega)]
/-- A block is taken. -/
structure Tk (w : World) (gk gc gy : Nat) (h : List B8) (y : G) : Prop where
  key : Ky w gk h
  cap : w.cell? ⟨gc, 0, none⟩ = some (.pointer (some ⟨gk, 0, none⟩))
  acc : Blk w gy 72 (ev y)
  ky : gk ≠ gy
  cy : gc ≠ gy
theorem Tk.then {w w' : World} {gk gc gy : Nat} {h : List B8} {y : G} (t : Tk w gk gc gy h y) (b : But (fun _ => False) w w') : Tk w' gk gc gy h y :=
  ⟨t.key.but b (fun h => h), (World.cell?_of_block (b.block gc (World.block_lt_of_cell? _ _ t.cap) (fun h => h))).trans t.cap, t.acc.but b (fun h => h), t.ky, t.cy⟩
theorem Tk.put {w w' : World} {gk gc gy : Nat} {h : List B8} {y y' : G} (t : Tk w gk gc gy h y) (b : But (· = gy) w w') (hb : Blk w' gy 72 (ev y')) : Tk w' gk gc gy h y' :=
  ⟨t.key.but b t.ky, (World.cell?_of_block (b.block gc (World.block_lt_of_cell? _ _ t.cap) t.cy)).trans t.cap, hb, t.ky, t.cy⟩
set_option maxRecDepth 100000 in
set_option maxHeartbeats 1000000 in
theorem take_any {w : World} {gk gc gy : Nat} {h B : List B8} {y : G} (ht : Tk w gk gc gy h y) (hB : B.length = 16) :
    Calls Try.prog 69 #[.agg (u8s (nts B)).toArray, .pointer (some ⟨gc, 0, none⟩), .pointer (some ⟨gy, 0, none⟩)] w fun e w' => e = .returned (.tuple #[]) ∧ Tk w' gk gc gy h (gm (y ^^^ toG B) (toG h)) ∧ But (· = gy) w w' := by
  obtain ⟨b, hbb⟩ : ∃ b, b = w.heap.size := ⟨_, rfl⟩
  obtain ⟨C, hC⟩ : ∃ C, C = (u8s (nts B)).toArray := ⟨_, rfl⟩
  rw [← hC]
  obtain ⟨W0, hW0⟩ : ∃ W0, W0 = w.alloc (.cells C 44) := ⟨_, rfl⟩
  have al : But (fun _ => False) w W0 := by rw [hW0]; exact (But.refl _ w).alloc _
  have HT0 := Hid.mk' (ht.then al)
  have HA0 : Hid (Blk W0 b 44 (u8s (nts B))) := by rw [hW0, hC]; exact Blk.new hbb.symm
  have HAL := Hid.mk' al
  have HBL : Hid ((nts B).length = 16) := by show _ = _; rw [nts_len]; exact hB
  have HB' := Hid.mk' hB
  have HB := Hid.mk' hbb
  have HW := Hid.mk' hW0
  clear hC hbb hW0 al hB ht
  go_enter Try.func69, Try.ntmps69
  go_upto_region 1 with fail
  rw [← HW.out, ← HB.out]
  refine region_class (l := [_, _, _, _, _, _, _, _]) (o := _) (fun w' => But (fun _ => False) W0 w') (by kernel_rfl) (by kernel_rfl) (by kernel_rfl) rfl (by kernel_rfl) (by kernel_rfl) ((But.refl _ W0).drew) ?_
  refine class_val (.pointer (some ⟨gk, 0, none⟩)) rfl (fun w' hw' => by have hc := (HT0.out.then hw').cap; go_simp) ?_
  intro K hK; go_simp; refine hK _ ?_; clear hK K
  refine class_val _ rfl (fun w' _ => rfl) ?_
  intro K hK; go_simp; refine hK _ ?_; clear hK K
  refine class_val (.pointer (some ⟨gk, 0, none⟩)) rfl (fun w' _ => by go_simp) ?_
  intro K hK; go_simp; refine hK _ ?_; clear hK K
  refine class_val (.agg (ev y).toArray) rfl (fun w' hw' => run_load_ev (blk_add (HT0.out.then hw').acc) rfl rfl) ?_
  intro K hK; go_simp; refine hK _ ?_; clear hK K
  refine class_val (.agg (u8s (nts B)).toArray) rfl (fun w' hw' => run_load16 HBL.out (blk_add (HA0.out.but hw' (fun h => h))) rfl rfl) ?_
  intro K hK; go_simp; refine hK _ ?_; clear hK K
  refine class_call (.agg (ev (toG B)).toArray) 38 #[.agg (u8s (nts B)).toArray] rfl (fun w' _ => by kernel_rfl) (fun w' hw' => (elementOf_any HB'.out).mono (fun r w'' h => ⟨h.1, hw'.trans h.2⟩)) ?_
  intro K hK; go_simp; refine hK _ ?_; clear hK K
  refine class_call (.agg (ev (y ^^^ toG B)).toArray) 71 #[.agg (ev y).toArray, .agg (ev (toG B)).toArray] rfl (fun w' _ => by kernel_rfl) (fun w' hw' => (plus_any y (toG B)).mono (fun r w'' h => ⟨h.1, hw'.trans h.2⟩)) ?_
  intro K hK; go_simp; refine hK _ ?_; clear hK K
  refine class_call (.agg (ev (gm (y ^^^ toG B) (toG h))).toArray) 70 #[.pointer (some ⟨gk, 0, none⟩), .agg (ev (y ^^^ toG B)).toArray] rfl (fun w' _ => by kernel_rfl) (fun w' hw' => (gmul_any (HT0.out.then hw').key).mono (fun r w'' h => ⟨h.1, hw'.trans h.2⟩)) ?_
  intro K hK; go_simp; refine hK _ ?_; clear hK K
  refine wpQuiet_nil ?_
  intro w1 hw1
  have HT1 := Hid.mk' (HT0.out.then hw1)
  have HA1 := Hid.mk' (HAL.out.trans hw1)
  obtain ⟨s, hs⟩ : ∃ s, s = gm (y ^^^ toG B) (toG h) := ⟨_, rfl⟩
  rw [← hs]
  have HS := Hid.mk' hs
  clear hs hw1 HW HT0 HA0 HAL
  go_wp2_with (refine wpList_store_ev rfl _ _ rfl gy 72 s y rfl (by exact rfl) HT1.out.acc ?_; intro w9 hs9 hb9)
  go_end0
  refine ⟨rfl, ?_, HA1.out.mono (fun _ _ h => h.elim) |>.trans hb9⟩
  rw [← HS.out]
  exact HT1.out.put hb9 hs9
end Go.Proofs.Ythmjdebnjcopnaa
/- ghash: the blocks of bytes, one by one. -/
namespace Go.Proofs.Ythmjdebnjcopnaa
open Go.RowKit

theorem copy_blk {w : World} {g : Nat} {v : Value} {ys : List Nat} (ty : TypeId) (hb : Blk w g 44 (u8s (List.replicate 16 0))) (hv : Bs w v ys) (h0 : 0 < ys.length) :
    ∃ w', (Builtin.copy_ #[22, 22] ty #[.slice (some ⟨g, 0, none⟩) 16 16, v]).run Try.prog w = .ok (.int .i64 ((Nat.min ys.length 16 : Nat) : Int)) w' ∧ Blk w' g 44 (u8s (ys.take 16 ++ List.replicate (16 - ys.length) 0)) ∧ But (· = g) w w' := by
  obtain ⟨_, _, ⟨rfl, _⟩ | ⟨_, b, off, cap, rfl, _, _, hc⟩⟩ := hv
  · exact absurd h0 (by decide)
  · obtain ⟨n, hn⟩ : ∃ n, n = Nat.min ys.length 16 := ⟨_, rfl⟩
    have hn1 : n ≤ 16 := by rw [hn]; exact Nat.min_le_right _ _
    have hb' : Blk w g 44 ([] ++ u8s (List.replicate n 0) ++ u8s (List.replicate (16 - n) 0)) := by
      have e : [] ++ u8s (List.replicate n 0) ++ u8s (List.replicate (16 - n) 0) = u8s (List.replicate 16 0) := by
        have : List.replicate 16 0 = List.replicate n 0 ++ List.replicate (16 - n) 0 := by
          rw [List.replicate_append_replicate]; congr 1; omega
        rw [this]; simp [u8s]
      rw [e]; exact hb
    refine ⟨_, by rw [← hn]; exact run_copy_blk ty hb' rfl (by simp [u8s]) hn hc, ?_, (But.refl (· = g) w).setRow (fun _ => rfl) _⟩
    have h2 := hb'.row ([] ++ u8s (ys.take n) ++ u8s (List.replicate (16 - n) 0))
    have e : [] ++ u8s (ys.take n) ++ u8s (List.replicate (16 - n) 0) = u8s (ys.take 16 ++ List.replicate (16 - ys.length) 0) := by
      have e1 : 16 - n = 16 - ys.length := by rw [hn]; simp only [Nat.min_def]; split <;> omega
      have e2 : ys.take n = ys.take 16 := by
        rw [hn]
        simp only [Nat.min_def]
        split
        · rw [List.take_of_length_le (Nat.le_refl _), List.take_of_length_le (by omega)]
        · rfl
      rw [e1, e2]; simp [u8s]
    rw [e] at h2 ⊢
    exact h2
def lenV : Value → Nat
  | .slice _ n _ => n
  | _ => 0
/-- What memory is amid eachBlock. -/
structure EachI (w : World) (gk gc gy : Nat) (h : List B8) (y : G) (zs : List Nat) (k : Nat) (v : Value) (wr : World) : Prop where
  tk : Tk wr gk gc gy h (gF (toG h) y (padB zs) k)
  src : Bs wr v (zs.drop (16 * k))
  own : 0 < zs.length → ∀ j, v.ownBlock = some j → j ≠ gy
  but : But (· = gy) w wr
set_option maxRecDepth 100000 in
set_option maxHeartbeats 2000000 in
theorem each_any {w : World} {gk gc gy : Nat} {h : List B8} {y : G} {v : Value} {zs : List Nat} (ht : Tk w gk gc gy h y) (hv : Bs w v zs) (hl : zs.length ≤ 10000) (ho : 0 < zs.length → ∀ j, v.ownBlock = some j → j ≠ gy) :
    Calls Try.prog 72 #[v, .func (.func 69) #[] #[.pointer (some ⟨gc, 0, none⟩), .pointer (some ⟨gy, 0, none⟩)]] w fun e w' => e = .returned (.tuple #[]) ∧ Tk w' gk gc gy h (gF (toG h) y (padB zs) (nblk zs.length)) ∧ But (· = gy) w w' := by
  have hz := zeroG
  obtain ⟨Z, hZ⟩ : ∃ Z, Z = (u8s (List.replicate 16 0)).toArray := ⟨_, rfl⟩
  rw [← hZ] at hz
  have HZ := Hid.mk' hZ
  have HI0 : Hid (EachI w gk gc gy h y zs 0 v w) := ⟨ht, hv, ho, But.refl _ w⟩
  have HL := Hid.mk' hl
  have HZT := Hid.mk' hv.1
  have HGY := Hid.mk' ht.acc.lt
  clear hZ ht hv ho hl
  go_enter Try.func72, Try.ntmps72
  go_wp2
  go_loopw [0] (fun v wr => ∃ k : Nat, k ≤ nblk zs.length ∧ EachI w gk gc gy h y zs k v wr) (fun v _ => lenV v)
  case atStart => exact ⟨0, by omega, HI0.out⟩
  case round =>
    obtain ⟨k, hk, hI⟩ := hrel
    obtain ⟨ys, hys⟩ : ∃ ys, ys = zs.drop (16 * k) := ⟨_, rfl⟩
    have hBs := hI.src
    rw [← hys] at hBs
    obtain ⟨ao, cap, rfl, -, -⟩ := hBs.gen
    obtain ⟨L, hL⟩ : ∃ L, L = ys.length := ⟨_, rfl⟩
    rw [← hL] at hI hBs ⊢
    have hLL : L = zs.length - 16 * k := by rw [hL, hys, List.length_drop]
    have HI := Hid.mk' hI
    have HYS := Hid.mk' hys
    have HLY := Hid.mk' hL
    have HLL := Hid.mk' hLL
    have HK := Hid.mk' hk
    clear hI hys hL hLL hk HI0
    by_cases h0 : 0 < L
    · have h0i : (0 : Int) < (L : Int) := by omega
      obtain ⟨b, so, rfl, hcap⟩ : ∃ b so, ao = some ⟨b, so, none⟩ ∧ L ≤ cap := by
        obtain ⟨_, _, ⟨e, _⟩ | ⟨_, b, so, cap', e, hcap, _, _⟩⟩ := id hBs
        · have := HLY.out; rw [e] at this; exact absurd this (by simp; omega)
        · simp only [Value.slice.injEq] at e
          obtain ⟨rfl, e1, rfl⟩ := e
          exact ⟨b, so, rfl, by omega⟩
      obtain ⟨gb, hgb⟩ : ∃ gb, gb = wr.heap.size := ⟨_, rfl⟩
      obtain ⟨w1, hw1⟩ : ∃ w1, w1 = wr.alloc (.cells Z 44) := ⟨_, rfl⟩
      have al : But (fun _ => False) wr w1 := by rw [hw1]; exact (But.refl _ wr).alloc _
      have hB1 : Blk w1 gb 44 (u8s (List.replicate 16 0)) := by rw [hw1, HZ.out]; exact Blk.new hgb.symm
      obtain ⟨w2, hcopy, hblk, hb2⟩ := copy_blk 3 hB1 (hBs.but al (fun _ _ _ h => h)) (by rw [← HLY.out]; exact h0)
      obtain ⟨c, hc⟩ : ∃ c, c = Nat.min L 16 := ⟨_, rfl⟩
      rw [← HLY.out, ← hc] at hcopy
      have hcL : c ≤ L := by rw [hc]; exact Nat.min_le_left _ _
      have hc0 : 0 < c := by rw [hc]; simp only [Nat.min_def]; split <;> omega
      have hal2 : But (fun _ => False) wr w2 := al.then hb2 (fun j hj e => by omega)
      obtain ⟨p', hsl, hbs', hown', -⟩ := (hBs.but hal2 (fun _ _ _ h => h)).cut HLY.out.symm h0 hcL hcap
      have hkn : 16 * k < zs.length := by have := HLL.out; omega
      have hdrop : ys.drop c = zs.drop (16 * (k + 1)) := by
        rw [HYS.out, List.drop_drop]
        by_cases h16 : 16 ≤ L
        · rw [show c = 16 by rw [hc]; exact Nat.min_eq_right h16, show 16 * k + 16 = 16 * (k + 1) by omega]
        · have := HLL.out
          rw [show c = L by rw [hc]; exact Nat.min_eq_left (by omega), List.drop_of_length_le (by omega), List.drop_of_length_le (by omega)]
      rw [hdrop] at hbs'
      obtain ⟨B, hBB⟩ : ∃ B, B = blkAt (padB zs) k := ⟨_, rfl⟩
      rw [HYS.out, blk_bytes zs HZT.out k, ← hBB] at hblk
      have HBL : Hid (B.length = 16) := by show _ = _; rw [hBB, blkAt_len]
      have HBN : Hid ((nts B).length = 16) := by show _ = _; rw [nts_len]; exact HBL.out
      have HTK := Hid.mk' (take_any (HI.out.tk.then hal2) HBL.out)
      have HBK := Hid.mk' hblk
      have HBS := Hid.mk' hbs'
      have HOW : Hid (p'.ownBlock = some b ∧ b ≠ gy) := ⟨hown', HI.out.own (by omega) b rfl⟩
      have HBT := Hid.mk' (HI.out.but.then hal2 (fun _ _ h => h.elim))
      have HBB := Hid.mk' hBB
      have HKN := Hid.mk' hkn
      have HLC : Hid (lenV p' < L) := by
        obtain ⟨ao', cap', e, -, -⟩ := hbs'.gen
        rw [e]
        show (zs.drop (16 * (k + 1))).length < L
        have := HLL.out
        rw [List.length_drop]; omega
      rw [hw1] at hcopy
      have hs16 : ∀ w : World, (Instr.sliceAt 44 (.pointer (some ⟨wr.heap.size, 0, none⟩)) none none none).run Try.prog w = .ok (.slice (some ⟨wr.heap.size, 0, none⟩) 16 16) w := fun _ => by kernel_rfl
      rw [hgb] at hcopy HBK
      clear hBB hkn hdrop hbs' hown' hal2 hb2 hblk hB1 al hc hcL hw1 hcap hBs HI HYS HLY
      go_wp2_with (first
        | (refine wpList_load_u8s Try.underlying44 i16g rfl _ rfl wr.heap.size (nts B) HBN.out rfl HBK.out ?_)
        | fail)
      refine Calls.mono HTK.out ?_
      rintro e w3 ⟨rfl, ht3, hb3⟩
      have HT3 := Hid.mk' ht3
      have HB3 := Hid.mk' hb3
      clear ht3 hb3 HTK HBK hcopy
      go_wp2
      refine ⟨⟨k + 1, ?_, ?_⟩, HLC.out⟩
      · have := HKN.out; unfold nblk; omega
      · refine ⟨?_, HBS.out.but HB3.out (fun j hj _ => ?_), fun _ j hj => ?_, HBT.out.trans HB3.out⟩
        · have h := HT3.out
          rw [HBB.out] at h
          exact h
        · rw [HOW.out.1] at hj
          cases hj
          exact HOW.out.2
        · rw [HOW.out.1] at hj
          cases hj
          exact HOW.out.2
    · have hL0 : L = 0 := by omega
      subst hL0
      have hkn : k = nblk zs.length := by have := HLL.out; have := HK.out; unfold nblk at *; omega
      go_wp2
      go_end0
      rw [← hkn]
      exact ⟨rfl, HI.out.tk, HI.out.but⟩
end Go.Proofs.Ythmjdebnjcopnaa
/- ghash: Sum under a key. -/
namespace Go.Proofs.Ythmjdebnjcopnaa
open Go.RowKit

theorem Bs.step {w w' : World} {v : Value} {zs : List Nat} {gy : Nat} (h : Bs w v zs) (k : But (· = gy) w w') (ho : 0 < zs.length → ∀ j, v.ownBlock = some j → j ≠ gy) : Bs w' v zs := by
  by_cases h0 : 0 < zs.length
  · exact h.but k (fun j hj _ => ho h0 j hj)
  · obtain ⟨h1, h2, h3 | h3⟩ := h
    · exact ⟨h1, h2, .inl h3⟩
    · exact absurd h3.1 h0
set_option maxRecDepth 100000 in
theorem bitsOf_any {w : World} {ao : Option Addr} {n c : Nat} (hn : n ≤ 10000) :
    Calls Try.prog 74 #[.slice ao n c] w fun e w' => e = .returned (.int .u64 ((8 * n : Nat) : Int)) ∧ w' = w := by
  have h1 : ((8 * n : Nat) : Int) = (n : Int) * 8 := by omega
  rw [h1]
  go_enter Try.func74, Try.ntmps74
  go_wp2
  go_ret
  exact ⟨rfl, rfl⟩
set_option maxRecDepth 100000 in
set_option maxHeartbeats 2000000 in
theorem psum_any {w : World} {gk : Nat} {h : List B8} {v1 v2 : Value} {aad text : List Nat} (hk : Ky w gk h) (h1 : Bs w v1 aad) (h2 : Bs w v2 text) (l1 : aad.length ≤ 10000) (l2 : text.length ≤ 10000) :
    Calls Try.prog 50 #[.pointer (some ⟨gk, 0, none⟩), v1, v2] w fun e w' => e = .returned (.agg (u8s (nts (gsum h aad text))).toArray) ∧ But (fun _ => False) w w' := by
  obtain ⟨g, hg⟩ : ∃ g, g = w.heap.size := ⟨_, rfl⟩
  have hz := zeroG
  obtain ⟨Z, hZ⟩ : ∃ Z, Z = (u8s (List.replicate 16 0)).toArray := ⟨_, rfl⟩
  rw [← hZ] at hz
  obtain ⟨W0, hW0⟩ : ∃ W0, W0 = ((w.alloc (.cells #[.pointer (some ⟨gk, 0, none⟩)] 51)).alloc (.cells Z 44)).alloc (.cells #[.int .u64 0, .int .u64 0] 72) := ⟨_, rfl⟩
  have al : ∀ (x : World) (o : Obj), But (fun _ => False) x (x.alloc o) := fun x o => (But.refl _ x).alloc o
  have hT0 : But (fun _ => False) w W0 := by rw [hW0]; exact ((al _ _).alloc _).alloc _
  have hkl : gk < g := by rw [hg]; exact hk.lt
  have hC0 : Blk W0 g 51 [.pointer (some ⟨gk, 0, none⟩)] := by rw [hW0]; exact ((Blk.new hg.symm).but (al _ _) (fun h => h)).but (al _ _) (fun h => h)
  have HR0 : Hid (Blk W0 (g + 1) 44 (u8s (List.replicate 16 0))) := by rw [hW0, hZ]; exact (Blk.new (by simp [hg])).but (al _ _) (fun h => h)
  have hA0 : Blk W0 (g + 2) 72 (ev 0#128) := by rw [hW0, ev_zero]; exact Blk.new (by simp [hg])
  have hTK : Tk W0 gk g (g + 2) h 0#128 := ⟨hk.but hT0 (fun h => h), hC0.cell 0, hA0, by omega, by omega⟩
  have ho : ∀ {v : Value} {zs : List Nat}, Bs w v zs → 0 < zs.length → ∀ j, v.ownBlock = some j → j ≠ g + 2 := by
    intro v zs hv hne j hj
    obtain ⟨_, _, ⟨e, _⟩ | ⟨_, b, so, cap', rfl, _, hb, _⟩⟩ := hv
    · rw [e] at hne; exact absurd hne (by decide)
    · cases hj
      show b ≠ g + 2
      omega
  have HO1 := Hid.mk' (ho h1)
  have HO2 := Hid.mk' (ho h2)
  have HG := Hid.mk' hg
  have HW := Hid.mk' hW0
  have HT0 := Hid.mk' hT0
  have HV2 := Hid.mk' (h2.but hT0 (fun _ _ _ h => h))
  have HE1 := Hid.mk' (each_any hTK (h1.but hT0 (fun _ _ _ h => h)) l1 HO1.out)
  obtain ⟨ao1, c1, rfl⟩ : ∃ ao c, v1 = .slice ao aad.length c := by obtain ⟨ao, c, e, -, -⟩ := h1.gen; exact ⟨ao, c, e⟩
  obtain ⟨ao2, c2, rfl⟩ : ∃ ao c, v2 = .slice ao text.length c := by obtain ⟨ao, c, e, -, -⟩ := h2.gen; exact ⟨ao, c, e⟩
  obtain ⟨A, hA⟩ : ∃ A, A = aad.length := ⟨_, rfl⟩
  obtain ⟨T, hT⟩ : ∃ T, T = text.length := ⟨_, rfl⟩
  have HA := Hid.mk' hA
  have HT := Hid.mk' hT
  rw [← hA] at HE1 l1 ⊢
  rw [← hT] at l2 ⊢
  have hmf : ∀ (fn : Fn) (first cap : Array Value) (w : World), (Instr.makeFunc fn first cap).run Try.prog w = .ok (.func fn first cap) w := fun _ _ _ _ => rfl
  clear hg hW0 hT0 hZ hC0 hA0 hTK ho h1 h2 hkl al hk hA hT
  go_enter Try.func50, Try.ntmps50
  go_wp2_with fail
  rw [← HW.out, ← HG.out]
  rw [show g + 1 + 1 = g + 2 from rfl]
  refine Calls.mono HE1.out ?_
  rintro e w1 ⟨rfl, ht1, hb1⟩
  have HR1 := Hid.mk' (HR0.out.but hb1 (show ¬ (g + 1 = g + 2) by omega))
  have HE2 := Hid.mk' (each_any ht1 (HV2.out.step hb1 HO2.out) (by rw [← HT.out]; exact l2) HO2.out)
  rw [← HT.out] at HE2
  have HT1 := Hid.mk' (HT0.out.then hb1 (fun j hj e => by have := HG.out; omega))
  clear ht1 hb1 HE1 HR0 HT0 HW HV2 HO1 HO2
  go_wp2_with fail
  refine Calls.mono HE2.out ?_
  rintro e w2 ⟨rfl, ht2, hb2⟩
  have HR2 := Hid.mk' (HR1.out.but hb2 (show ¬ (g + 1 = g + 2) by omega))
  have HT2 := Hid.mk' (HT1.out.then hb2 (fun j hj e => by have := HG.out; omega))
  have HK2 := Hid.mk' ht2
  clear ht2 hb2 HE2 HR1 HT1
  go_wp2_with fail
  refine Calls.mono (bitsOf_any l1) ?_
  rintro e w' ⟨rfl, hw'⟩
  have hw2 := hw'.symm
  subst hw2
  clear hw'
  go_wp2_with fail
  refine Calls.mono (bitsOf_any l2) ?_
  rintro e w' ⟨rfl, hw'⟩
  have hw2 := hw'.symm
  subst hw2
  clear hw'
  go_wp2_with fail
  refine Calls.mono (gblockOf_any (8 * A) (8 * T) (by omega) (by omega)) ?_
  rintro e w3 ⟨rfl, hb3⟩
  rw [be_last, ← last_bytes]
  obtain ⟨y, hy⟩ : ∃ y, y = gF (toG h) (gF (toG h) 0#128 (padB aad) (nblk A)) (padB text) (nblk T) := ⟨_, rfl⟩
  rw [← hy] at HK2
  have HTK := Hid.mk' (take_any (HK2.out.then hb3) (blkAt_len (lastB A T) 0))
  have HR3 := Hid.mk' (HR2.out.but hb3 (fun h => h))
  have HT3 := Hid.mk' (HT2.out.trans hb3)
  obtain ⟨B, hB⟩ : ∃ B, B = blkAt (lastB A T) 0 := ⟨_, rfl⟩
  rw [← hB] at HTK ⊢
  have HB := Hid.mk' hB
  have HY := Hid.mk' hy
  clear hb3 hy hB HK2 HR2 HT2
  go_wp2_with fail
  refine Calls.mono HTK.out ?_
  rintro e w4 ⟨rfl, ht4, hb4⟩
  have HR4 := Hid.mk' (HR3.out.but hb4 (show ¬ (g + 1 = g + 2) by omega))
  have HT4 := Hid.mk' (HT3.out.then hb4 (fun j hj e => by have := HG.out; omega))
  have HS : Hid (gm (y ^^^ toG B) (toG h) = toG (gsum h aad text)) := by
    show _ = _
    rw [gsum_parts, HY.out, HB.out, HA.out, HT.out]
  have HACC := Hid.mk' ht4.acc
  rw [HS.out] at HACC
  obtain ⟨s, hs⟩ : ∃ s, s = toG (gsum h aad text) := ⟨_, rfl⟩
  rw [← hs] at HACC
  have HSS := Hid.mk' hs
  clear ht4 hb4 hs HTK HR3 HT3
  go_wp2_with (first
    | (refine wpList_load_ev rfl _ rfl ⟨g + 2, 0, none⟩ s rfl (blk_add HACC.out) ?_)
    | fail)
  refine Calls.mono (block_any s) ?_
  rintro e w5 ⟨rfl, hb5⟩
  have HR5 := Hid.mk' (HR4.out.but hb5 (fun h => h))
  have HT5 := Hid.mk' (HT4.out.trans hb5)
  have HO : Hid (ofG s = gsum h aad text) := by show _ = _; rw [HSS.out]; exact ofG_toG (gsumN_len _ _ _)
  rw [HO.out]
  obtain ⟨zs, hzs⟩ : ∃ zs, zs = nts (gsum h aad text) := ⟨_, rfl⟩
  rw [← hzs]
  have HZL : Hid (zs.length = 16) := by show _ = _; rw [hzs, nts_len]; exact gsumN_len _ _ _
  have HZS := Hid.mk' hzs
  clear hzs hb5 HR4 HT4 HACC
  go_wp2_with (refine wpList_store_u8s i16g rfl _ _ rfl (g + 1) zs HZL.out rfl (by exact rfl) _ (by simp [u8s]) HR5.out ?_; intro w9 hb9 hbut9)
  refine bodyPost_ret (results_cell_row rfl _ _ (g + 1) _ _ _ _ rfl hb9 Try.underlying44 rfl (by rw [i16g]; simp [u8s, HZL.out])) rfl ⟨by rw [← HZS.out], ?_⟩
  exact HT5.out.then hbut9 (fun j hj e => by have := HG.out; omega)
end Go.Proofs.Ythmjdebnjcopnaa
/- The reference's Times. -/
namespace Go.Proofs.Ythmjdebnjcopnaa
open Go.RowKit

theorem i64_xor_small (a b : Nat) (ha : a < 4294967296) (hb : b < 4294967296) : bits .xor .i64 (a : Int) (b : Int) = ((a ^^^ b : Nat) : Int) := by
  have hx : a ^^^ b < 2 ^ 32 := Nat.xor_lt_two_pow (by omega) (by omega)
  show IntKind.i64.wrap ((BitVec.ofInt 64 (a : Int) ^^^ BitVec.ofInt 64 (b : Int)).toNat : Int) = _
  rw [BitVec.toNat_xor, ofInt_u64 a (by omega), ofInt_u64 b (by omega)]
  simp [IntKind.wrap, IntKind.bits, IntKind.signed]
  omega
theorem i64_and_one (a : Nat) (ha : a < 9223372036854775808) : bits .and .i64 (a : Int) 1 = ((a % 2 : Nat) : Int) := by
  show IntKind.i64.wrap ((BitVec.ofInt 64 (a : Int) &&& BitVec.ofInt 64 ((1 : Nat) : Int)).toNat : Int) = _
  rw [BitVec.toNat_and, ofInt_u64 a (by omega), ofInt_u64 1 (by omega), Nat.and_one_is_mod]
  simp [IntKind.wrap, IntKind.bits, IntKind.signed]
  omega
theorem wrap64_small (n : Nat) (h : n < 9223372036854775808) : wrap64 (n : Int) = n := by unfold wrap64; omega
/-- A polynomial as a number. -/
def b16 (x : BitVec 16) : Nat := x.toNat
theorem b16_lt (x : BitVec 16) : b16 x < 65536 := x.isLt
theorem wideBit (a b : B8) (k : Nat) (hk : k < 8) (h : b.getLsbD k = true) : bits .xor .i64 (b16 (wide a b k) : Int) (wrap64 ((b8 a : Int) * 2 ^ k)) = (b16 (wide a b (k + 1)) : Int) := by
  have ha := b8_lt a
  have hp : 2 ^ k ≤ 2 ^ 7 := Nat.pow_le_pow_right (by decide) (by omega)
  have hm : b8 a * 2 ^ k < 65536 := Nat.lt_of_le_of_lt (Nat.mul_le_mul (Nat.le_of_lt ha) hp) (by decide)
  have e := i64_xor_small (b16 (wide a b k)) (b8 a * 2 ^ k) (Nat.lt_trans (b16_lt _) (by decide)) (Nat.lt_trans hm (by decide))
  rw [show ((b8 a : Int) * 2 ^ k) = ((b8 a * 2 ^ k : Nat) : Int) by simp, wrap64_small _ (Nat.lt_trans hm (by decide)), e]
  congr 1
  show _ = b16 (wide a b k ^^^ cx (b.getLsbD k) (a.setWidth 16 <<< k))
  rw [h]
  show _ = (wide a b k ^^^ (a.setWidth 16 <<< k)).toNat
  rw [BitVec.toNat_xor, BitVec.toNat_shiftLeft, BitVec.toNat_setWidth, Nat.shiftLeft_eq]
  have h1 : a.toNat % 2 ^ 16 = b8 a := Nat.mod_eq_of_lt (Nat.lt_trans ha (by decide))
  rw [h1, Nat.mod_eq_of_lt hm]
  rfl
theorem wideNot (a b : B8) (k : Nat) (h : b.getLsbD k = false) : wide a b (k + 1) = wide a b k := by
  show wide a b k ^^^ cx (b.getLsbD k) _ = _; rw [h]; exact BitVec.xor_zero
theorem cut_at (p : BitVec 16) (m : Nat) : bits .and .i64 ((b16 p : Int) / 2 ^ m) 1 = (if p.getLsbD m then 1 else 0) := by
  have e := i64_and_one (b16 p / 2 ^ m) (Nat.lt_of_le_of_lt (Nat.div_le_self _ _) (Nat.lt_trans (b16_lt p) (by decide)))
  rw [show ((b16 p : Int) / 2 ^ m) = ((b16 p / 2 ^ m : Nat) : Int) by simp, e]
  have e2 : p.getLsbD m = decide (b16 p / 2 ^ m % 2 = 1) := by
    show p.toNat.testBit m = _
    rw [Nat.testBit_eq_decide_div_mod_eq]; rfl
  rw [e2]
  by_cases hh : b16 p / 2 ^ m % 2 = 1
  · rw [hh]; rfl
  · have h0 : b16 p / 2 ^ m % 2 = 0 := by omega
    rw [h0]; rfl
theorem cutBit (p : BitVec 16) (q : Nat) (hq : q < 8) (h : (cut p (7 - q)).getLsbD (8 + q) = true) : bits .xor .i64 (b16 (cut p (7 - q)) : Int) (wrap64 (283 * 2 ^ q)) = (b16 (cut p (8 - q)) : Int) := by
  have hp : 2 ^ q ≤ 2 ^ 7 := Nat.pow_le_pow_right (by decide) (by omega)
  have hm : 283 * 2 ^ q < 65536 := Nat.lt_of_le_of_lt (Nat.mul_le_mul (Nat.le_refl 283) hp) (by decide)
  have e := i64_xor_small (b16 (cut p (7 - q))) (283 * 2 ^ q) (Nat.lt_trans (b16_lt _) (by decide)) (Nat.lt_trans hm (by decide))
  rw [show ((283 : Int) * 2 ^ q) = ((283 * 2 ^ q : Nat) : Int) by simp, wrap64_small _ (Nat.lt_trans hm (by decide)), e]
  congr 1
  rw [show 8 - q = (7 - q) + 1 by omega]
  show _ = b16 (cut p (7 - q) ^^^ cx ((cut p (7 - q)).getLsbD (15 - (7 - q))) (283#16 <<< (7 - (7 - q))))
  rw [show 15 - (7 - q) = 8 + q by omega, show 7 - (7 - q) = q by omega, h]
  show _ = (cut p (7 - q) ^^^ (283#16 <<< q)).toNat
  rw [BitVec.toNat_xor, BitVec.toNat_shiftLeft, Nat.shiftLeft_eq]
  rw [show (283#16).toNat = 283 from rfl, Nat.mod_eq_of_lt hm]
  rfl
theorem cutNot (p : BitVec 16) (q : Nat) (hq : q < 8) (h : (cut p (7 - q)).getLsbD (8 + q) = false) : cut p (8 - q) = cut p (7 - q) := by
  rw [show 8 - q = (7 - q) + 1 by omega]
  show cut p (7 - q) ^^^ cx ((cut p (7 - q)).getLsbD (15 - (7 - q))) _ = _
  rw [show 15 - (7 - q) = 8 + q by omega, h]
  exact BitVec.xor_zero
theorem tmr_low (a b : B8) : (b16 (cut (wide a b 8) 8) : Int) % 256 = (b8 (tm a b) : Int) := by
  rw [← tmr_eq]
  show _ = (((cut (wide a b 8) 8).setWidth 8).toNat : Int)
  rw [BitVec.toNat_setWidth]
  rfl
set_option maxHeartbeats 1000000 in
theorem rtimes_any (a b : B8) (w : World) :
    Calls Try.prog 48 #[.int .u8 (b8 a), .int .u8 (b8 b)] w fun e w' => e = .returned (.int .u8 (b8 (tm a b))) ∧ w' = w := by
  have hb := b8_lt b
  have ha := b8_lt a
  go_enter Try.func48, Try.ntmps48
  go_wp2
  go_loopw [5, 6] (fun p i wr => ∃ k : Nat, k ≤ 8 ∧ i = .int .u64 k ∧ p = .int .i64 (b16 (wide a b k)) ∧ wr = w) (fun _ i _ => 8 - (intOf i).toNat)
  case atStart => exact ⟨0, by decide, rfl, rfl, rfl⟩
  case round =>
    obtain ⟨k, hk, rfl, rfl, rfl⟩ := hrel
    by_cases hlt : k < 8
    · have hlti : (k : Int) < 8 := by omega
      have hbit := bit_at b k hlt
      have hp := b16_lt (wide a b k)
      cases hg : b.getLsbD k
      · rw [hg, if_neg (by decide)] at hbit
        have HA := Hid.mk' (wideNot a b k hg)
        clear hg
        go_wp2
        refine ⟨⟨k + 1, by omega, by go_num, by rw [HA.out], trivial⟩, by simp [intOf]; omega⟩
      · rw [hg, if_pos rfl] at hbit
        have hacc := wideBit a b k hlt hg
        clear hg
        go_wp2
        refine ⟨⟨k + 1, by omega, by go_num, rfl, trivial⟩, by simp [intOf]; omega⟩
    · have hk8 : k = 8 := by omega
      subst hk8
      obtain ⟨wm, hwm⟩ : ∃ wm, wm = wr := ⟨_, rfl⟩
      subst hwm
      obtain ⟨P, hP⟩ : ∃ P, P = wide a b 8 := ⟨_, rfl⟩
      have HL := Hid.mk' (tmr_low a b)
      rw [← hP] at HL ⊢
      clear hP
      go_wp2
      go_loopw [5, 7] (fun p i wr => ∃ q : Nat, q ≤ 8 ∧ i = .int .u64 (7 + q : Nat) ∧ p = .int .i64 (b16 (cut P (8 - q))) ∧ wr = wm) (fun _ i _ => (intOf i).toNat)
      case atStart => exact ⟨8, by decide, rfl, rfl, rfl⟩
      case round =>
        obtain ⟨q, hq, rfl, rfl, rfl⟩ := hrel
        by_cases h0 : q = 0
        · subst h0
          have hl := HL.out
          go_wp2
          go_ret
          refine ⟨?_, rfl⟩
          rw [← hl]; rfl
        · obtain ⟨r, rfl⟩ : ∃ r, q = r + 1 := ⟨q - 1, by omega⟩
          have hr : r < 8 := by omega
          obtain ⟨m, hm⟩ : ∃ m, m = 8 + r := ⟨_, rfl⟩
          rw [show 7 + (r + 1) = m by omega, show 8 - (r + 1) = 7 - r by omega]
          have hp := b16_lt (cut P (7 - r))
          have hbit := cut_at (cut P (7 - r)) m
          have hge : (8 : Int) ≤ m := by omega
          have hlt2 : (m : Int) < 16 := by omega
          have hsub : (m : Int) - 8 = r := by omega
          have HM := Hid.mk' hm
          clear hm
          cases hg : (cut P (7 - r)).getLsbD m
          · rw [hg, if_neg (by decide)] at hbit
            have HA := Hid.mk' (cutNot P r hr (by rw [← HM.out]; exact hg))
            clear hg
            go_wp2
            refine ⟨⟨r, by omega, by have hmm := HM.out; go_num, by rw [HA.out], trivial⟩, by have hmm := HM.out; simp [intOf]; omega⟩
          · rw [hg, if_pos rfl] at hbit
            have hacc := cutBit P r hr (by rw [← HM.out]; exact hg)
            clear hg
            go_wp2
            refine ⟨⟨r, by omega, by have hmm := HM.out; go_num, rfl, trivial⟩, by have hmm := HM.out; simp [intOf]; omega⟩
end Go.Proofs.Ythmjdebnjcopnaa
/- The program's Power and Inverse; the reference's. -/
namespace Go.Proofs.Ythmjdebnjcopnaa
open Go.RowKit

theorem pw_odd (q x : B8) (m : Nat) (h : m % 2 = 1) : tm (tm q x) (pw (tm x x) (m / 2)) = tm q (pw x m) := by
  rw [pw_sq, ← tm_assoc]
  have e : m = 1 + 2 * (m / 2) := by omega
  have e1 : x = pw x 1 := (one_tm x).symm
  conv => lhs; arg 2; arg 1; rw [e1]
  rw [pw_add, ← e]
theorem pw_even (q x : B8) (m : Nat) (h : m % 2 = 0) : tm q (pw (tm x x) (m / 2)) = tm q (pw x m) := by
  rw [pw_sq]
  have e : m = 2 * (m / 2) := by omega
  rw [← e]
set_option maxHeartbeats 1000000 in
theorem power_any (a : B8) (N : Int) (h2 : N < 9223372036854775808) (w : World) :
    Calls Try.prog 86 #[.int .u8 (b8 a), .int .i64 N] w fun e w' => e = .returned (.int .u8 (b8 (pw a N.toNat))) ∧ w' = w := by
  have H := Hid.mk' (fun x y => times_any x y w)
  obtain ⟨P, hP⟩ : ∃ P, P = pw a N.toNat := ⟨_, rfl⟩
  rw [← hP]
  have HP := Hid.mk' hP
  have H2 := Hid.mk' h2
  clear hP h2
  go_enter Try.func86, Try.ntmps86
  go_wp2
  go_loopw [0, 1, 5] (fun x n p wr => ∃ (X Q : B8) (M : Int), x = .int .u8 (b8 X) ∧ n = .int .i64 M ∧ p = .int .u8 (b8 Q) ∧ M < 9223372036854775808 ∧ tm Q (pw X M.toNat) = P ∧ wr = w) (fun _ n _ _ => (intOf n).toNat)
  case atStart => exact ⟨a, 1#8, N, rfl, rfl, rfl, H2.out, by rw [HP.out]; exact one_tm _, rfl⟩
  case round =>
    obtain ⟨X, Q, M, rfl, rfl, rfl, hM, hrel2, rfl⟩ := hrel
    have HE := Hid.mk' hrel2
    clear hrel2
    by_cases h0 : 0 < M
    · obtain ⟨m, hm⟩ : ∃ m : Nat, M = (m : Int) := ⟨M.toNat, by omega⟩
      have HM := Hid.mk' (show M.toNat = m by omega)
      rw [HM.out] at HE
      have HAN := Hid.mk' (i64_and_one m (by omega))
      have HB := Hid.mk' hM
      have HMM := Hid.mk' hm
      clear hM
      rw [← hm] at HAN
      have HD : Hid (M / 2 = ((m / 2 : Nat) : Int)) := by show _ = _; omega
      clear hm
      by_cases hodd : m % 2 = 1
      · have hand : bits .and .i64 M 1 = 1 := by rw [HAN.out, hodd]; rfl
        have HO := Hid.mk' (pw_odd Q X m hodd)
        clear hodd
        go_wp2_with fail
        refine Calls.mono (H.out Q X) ?_
        rintro e w1 ⟨rfl, hw⟩
        have hw' := hw.symm
        subst hw'
        go_wp2_with fail
        refine Calls.mono (H.out X X) ?_
        rintro e w1 ⟨rfl, hw⟩
        have hw' := hw.symm
        subst hw'
        go_wp2
        refine ⟨⟨tm X X, tm Q X, ((m / 2 : Nat) : Int), rfl, by rw [← HD.out], rfl, by have := HB.out; have := HMM.out; omega, ?_, trivial⟩, by have := HMM.out; simp [intOf]; omega⟩
        rw [show (((m / 2 : Nat) : Int)).toNat = m / 2 by omega, HO.out, HE.out]
      · have hev : m % 2 = 0 := by omega
        have hand : bits .and .i64 M 1 = 0 := by rw [HAN.out, hev]; rfl
        have HO := Hid.mk' (pw_even Q X m hev)
        clear hodd hev
        go_wp2_with fail
        refine Calls.mono (H.out X X) ?_
        rintro e w1 ⟨rfl, hw⟩
        have hw' := hw.symm
        subst hw'
        go_wp2
        refine ⟨⟨tm X X, Q, ((m / 2 : Nat) : Int), rfl, by rw [← HD.out], rfl, by have := HB.out; have := HMM.out; omega, ?_, trivial⟩, by have := HMM.out; simp [intOf]; omega⟩
        rw [show (((m / 2 : Nat) : Int)).toNat = m / 2 by omega, HO.out, HE.out]
    · have e : Q = P := by
        rw [← HE.out, show M.toNat = 0 by omega]; exact (tm_one Q).symm
      subst e
      go_wp2
      go_ret
      exact ⟨rfl, rfl⟩
end Go.Proofs.Ythmjdebnjcopnaa
/- The program's RotateLeft8, boxed, column. -/
namespace Go.Proofs.Ythmjdebnjcopnaa
open Go.RowKit

theorem rot8 : ∀ k, k < 5 → 1 ≤ k → ∀ n, n < 256 → bits .or .u8 ((b8 (BitVec.ofNat 8 n) : Int) * 2 ^ k % 256) ((b8 (BitVec.ofNat 8 n) : Int) / 2 ^ (8 - k)) = (b8 ((BitVec.ofNat 8 n).rotateLeft k) : Int) := by decide +kernel
theorem and7 : ∀ k : Nat, k < 5 → bits .and .u64 (k : Int) 7 = (k : Int) := by decide +kernel
set_option maxHeartbeats 1000000 in
theorem rotl8_any (x : B8) (k : Nat) (h1 : 1 ≤ k) (h2 : k < 5) (w : World) :
    Calls Try.prog 91 #[.int .u8 (b8 x), .int .i64 k] w fun e w' => e = .returned (.int .u8 (b8 (x.rotateLeft k))) ∧ w' = w := by
  have hx := b8_lt x
  have ha := and7 k h2
  have hr := Hid.mk' (all8 (P := fun x => bits .or .u8 ((b8 x : Int) * 2 ^ k % 256) ((b8 x : Int) / 2 ^ (8 - k)) = (b8 (x.rotateLeft k) : Int)) (rot8 k h2 h1) x)
  obtain ⟨m, hm⟩ : ∃ m, m = 8 - k := ⟨_, rfl⟩
  have hm1 : m ≤ 7 := by omega
  have hq : (8 - (k : Int)) = (m : Int) := by omega
  rw [← hm] at hr
  clear hm
  go_enter Try.func91, Try.ntmps91
  go_wp2
  go_ret
  refine ⟨?_, rfl⟩
  rw [← hr.out]; rfl
theorem aff_xor (b : B8) : bits .xor .u8 (b8 (turns b 4) : Int) 99 = (b8 (aff b) : Int) := xor_b8 (turns b 4) 99#8
set_option maxHeartbeats 1000000 in
theorem boxed_any (b : B8) (w : World) :
    Calls Try.prog 78 #[.int .u8 (b8 b)] w fun e w' => e = .returned (.int .u8 (b8 (aff b))) ∧ w' = w := by
  have H : Hid (∀ k : Nat, 1 ≤ k → k < 5 → Calls Try.prog 91 #[.int .u8 (b8 b), .int .i64 k] w fun e w' => e = .returned (.int .u8 (b8 (b.rotateLeft k))) ∧ w' = w) := fun k h1 h2 => rotl8_any b k h1 h2 w
  have ha := aff_xor b
  go_enter Try.func78, Try.ntmps78
  go_wp2
  go_loopw [3, 4] (fun s t wr => ∃ k : Nat, k ≤ 4 ∧ t = .int .i64 (k + 1 : Nat) ∧ s = .int .u8 (b8 (turns b k)) ∧ wr = w) (fun _ t _ => 6 - (intOf t).toNat)
  case atStart => exact ⟨0, by decide, rfl, rfl, rfl⟩
  case round =>
    obtain ⟨k, hk, rfl, rfl, rfl⟩ := hrel
    by_cases hlt : k < 4
    · have HT := Hid.mk' (xor_b8 (turns b k) (b.rotateLeft (k + 1)))
      have hs := b8_lt (turns b k)
      obtain ⟨q, hq⟩ : ∃ q, q = k + 1 := ⟨_, rfl⟩
      rw [← hq] at HT ⊢
      have hle : (q : Int) ≤ 4 := by omega
      have HQ := Hid.mk' hq
      clear hq
      go_wp2_with fail
      refine Calls.mono (H.out q (by have := HQ.out; omega) (by omega)) ?_
      rintro e w1 ⟨rfl, hw⟩
      have hw' := hw.symm
      subst hw'
      have ht := HT.out
      go_wp2
      refine ⟨⟨k + 1, by omega, ?_, ?_, trivial⟩, ?_⟩
      · have := HQ.out; go_num
      · rw [HQ.out]; rfl
      · have := HQ.out; simp [intOf]; omega
    · have hk4 : k = 4 := by omega
      subst hk4
      go_wp2
      go_ret
      exact ⟨rfl, rfl⟩
theorem col_or (s : B8) : bits .or .u32 (bits .or .u32 (bits .or .u32 ((b8 (tm 2#8 s) : Int) * 16777216) ((b8 s : Int) * 65536)) ((b8 s : Int) * 256)) (b8 (tm 3#8 s) : Int) = (col s : Int) :=
  all8 (P := fun s => bits .or .u32 (bits .or .u32 (bits .or .u32 ((b8 (tm 2#8 s) : Int) * 16777216) ((b8 s : Int) * 65536)) ((b8 s : Int) * 256)) (b8 (tm 3#8 s) : Int) = (col s : Int)) (by decide +kernel) s
set_option maxHeartbeats 1000000 in
theorem column_any (s : B8) (w : World) :
    Calls Try.prog 79 #[.int .u8 (b8 s)] w fun e w' => e = .returned (.int .u32 (col s : Nat)) ∧ w' = w := by
  have hs := b8_lt s
  have h2 := b8_lt (tm 2#8 s)
  have h3 := b8_lt (tm 3#8 s)
  have H := Hid.mk' (fun x => times_any x s w)
  go_enter Try.func79, Try.ntmps79
  go_wp2_with fail
  refine Calls.mono (H.out 2#8) ?_
  rintro e w1 ⟨rfl, hw⟩
  have hw' := hw.symm
  subst hw'
  go_wp2_with fail
  refine Calls.mono (H.out 3#8) ?_
  rintro e w1 ⟨rfl, hw⟩
  have hw' := hw.symm
  subst hw'
  go_wp2
  go_ret
  refine ⟨?_, rfl⟩
  rw [← col_or s]; rfl
end Go.Proofs.Ythmjdebnjcopnaa
/- The program's set and generated. -/
namespace Go.Proofs.Ythmjdebnjcopnaa
open Go.RowKit

theorem get_some {L : List Value} {i : Nat} (h : i < L.length) : ∃ v, L[i]? = some v := ⟨L[i], List.getElem?_eq_getElem h⟩
/-- The cells with what is told of the byte a, whose inverse is i. -/
def told (L : List Value) (a s : B8) : List Value := ((L.set (b8 a) (.int .u8 (b8 s))).set (256 + b8 s) (.int .u8 (b8 a))).set (512 + b8 a) (.int .u32 (col s : Nat))
theorem told_len (L : List Value) (a s : B8) : (told L a s).length = L.length := by simp [told]
set_option maxRecDepth 100000 in
set_option maxHeartbeats 4000000 in
theorem set_any {w : World} {g : Nat} {T : TypeId} {L : List Value} (hb : Blk w g T L) (hl : L.length = 768) (a i : B8) :
    Calls Try.prog 56 #[.pointer (some ⟨g, 0, none⟩), .int .u8 (b8 a), .int .u8 (b8 i)] w fun e w' => e = .returned (.tuple #[]) ∧ Blk w' g T (told L a (aff i)) ∧ But (· = g) w w' := by
  have ha := b8_lt a
  have hs := b8_lt (aff i)
  have HBX := Hid.mk' (boxed_any i w)
  have HC := Hid.mk' (fun w => column_any (aff i) w)
  obtain ⟨s, hS⟩ : ∃ s, s = aff i := ⟨_, rfl⟩
  rw [← hS] at HBX HC hs ⊢
  clear hS
  have f0 := hb.free (b8 a)
  have f1 := hb.free (256 + b8 s)
  obtain ⟨v0, e0⟩ := get_some (L := L) (i := b8 a) (by omega)
  obtain ⟨v1, e1⟩ := get_some (L := L) (i := 256 + b8 s) (by omega)
  have c0 : w.cell? ⟨g, b8 a, none⟩ = some v0 := by rw [hb.cell, e0]
  have c1 : w.cell? ⟨g, 256 + b8 s, none⟩ = some v1 := by rw [hb.cell, e1]
  have HB := Hid.mk' hb
  have HL := Hid.mk' hl
  clear hb e0 e1 hl
  go_enter Try.func56, Try.ntmps56
  go_wp2_with fail
  refine Calls.mono HBX.out ?_
  rintro e w1 ⟨rfl, hw⟩
  have hw' := hw.symm
  subst hw'
  go_wp2_with fail
  obtain ⟨W1, hW1⟩ : ∃ W1, W1 = (w.setCell ⟨g, b8 a, none⟩ (.int .u8 (b8 s))).setCell ⟨g, 256 + b8 s, none⟩ (.int .u8 (b8 a)) := ⟨_, rfl⟩
  rw [← hW1]
  have hb1 : Blk W1 g T ((L.set (b8 a) (.int .u8 (b8 s))).set (256 + b8 s) (.int .u8 (b8 a))) := by rw [hW1]; exact (HB.out.set _ _).set _ _
  have HBT : Hid (But (· = g) w W1) := by rw [hW1]; exact ((But.refl (· = g) w).setCell (fun _ => rfl) _).setCell (fun _ => rfl) _
  have f2 := hb1.free (512 + b8 a)
  obtain ⟨v2, e2⟩ := get_some (L := (L.set (b8 a) (.int .u8 (b8 s))).set (256 + b8 s) (.int .u8 (b8 a))) (i := 512 + b8 a) (by simp; have := HL.out; omega)
  have c2 : W1.cell? ⟨g, 512 + b8 a, none⟩ = some v2 := by rw [hb1.cell, e2]
  have HB1 := Hid.mk' hb1
  clear hb1 e2 hW1 f0 f1 c0 c1
  go_region_with (go_at_call 79; refine Calls.mono (HC.out _) ?_; rintro e w1 ⟨rfl, hw⟩; have hw' := hw.symm; subst hw')
  go_wp2
  go_end0
  refine ⟨rfl, ?_, ?_⟩
  · exact HB1.out.set _ _
  · exact (HBT.out.setCell (p := ⟨g, 512 + b8 a, none⟩) (fun _ => rfl) _).drew
end Go.Proofs.Ythmjdebnjcopnaa
/- The program's generated. -/
namespace Go.Proofs.Ythmjdebnjcopnaa
open Go.RowKit

/-- The powers of 3. -/
def gens : List Nat := (List.range 255).map fun i => b8 (pw 3#8 i)
theorem gens_len : gens.length = 255 := by simp [gens]
theorem gens_at (i : Nat) (h : i < 255) : gens[i]? = some (b8 (pw 3#8 i)) := by simp [gens, h]
theorem gens_of {D : List Nat} (hl : D.length = 255) (h : ∀ i, i < 255 → D[i]? = some (b8 (pw 3#8 i))) : D = gens := by
  apply List.ext_getElem?
  intro i
  by_cases hi : i < 255
  · rw [h i hi, gens_at i hi]
  · rw [List.getElem?_eq_none (by omega), List.getElem?_eq_none (by rw [gens_len]; omega)]
theorem i255s : (Try.prog.info? 102).map (·.size) = some 255 := by kernel_rfl
set_option maxRecDepth 100000 in
set_option maxHeartbeats 1000000 in
theorem generated_any (w : World) :
    Calls Try.prog 57 #[] w fun e w' => e = .returned (.agg (u8s gens).toArray) ∧ But (fun _ => False) w w' := by
  have hz : ∀ w : World, (zeroValue 102).run Try.prog w = .ok (.agg (u8s (List.replicate 255 0)).toArray) w := fun _ => by kernel_rfl
  obtain ⟨Z, hZ⟩ : ∃ Z, Z = (u8s (List.replicate 255 0)).toArray := ⟨_, rfl⟩
  rw [← hZ] at hz
  have HZ := Hid.mk' hZ
  clear hZ
  have HT := Hid.mk' (fun x w => times_any x 3#8 w)
  obtain ⟨W0, hW0⟩ : ∃ W0, W0 = (w.alloc (.cells Z 102)).alloc (.cells Z 102) := ⟨_, rfl⟩
  have HB0 : Hid (Blk W0 w.heap.size 102 (u8s (List.replicate 255 0))) := by
    rw [hW0, HZ.out]; exact (Blk.new rfl).but ((But.refl (fun _ => False) _).alloc _) (fun h => h)
  have HB1 : Hid (Blk W0 (w.heap.size + 1) 102 (u8s (List.replicate 255 0))) := by
    rw [hW0, HZ.out]; exact Blk.new (by simp)
  have HBB : Hid (But (fun _ => False) w W0) := by rw [hW0]; exact ((But.refl _ w).alloc _).alloc _
  have HW0 := Hid.mk' hW0
  clear hW0
  go_enter Try.func57, Try.ntmps57
  go_wp2
  rw [← HW0.out]
  obtain ⟨g, hg⟩ : ∃ g, g = w.heap.size := ⟨_, rfl⟩
  rw [← hg] at HB0 HB1 ⊢
  have HG := Hid.mk' hg
  clear hg HW0 hz HZ
  go_loopw [2, 4] (fun p i wr => ∃ (k : Nat) (D : List Nat), k ≤ 255 ∧ i = .int .i64 k ∧ p = .int .u8 (b8 (pw 3#8 k)) ∧ D.length = 255 ∧ (∀ j, j < k → D[j]? = some (b8 (pw 3#8 j))) ∧ Blk wr g 102 (u8s (List.replicate 255 0)) ∧ Blk wr (g + 1) 102 (u8s D) ∧ But (fun _ => False) w wr) (fun _ i _ => 255 - (intOf i).toNat)
  case atStart => exact ⟨0, List.replicate 255 0, by decide, rfl, rfl, by simp, fun j hj => absurd hj (Nat.not_lt_zero _), HB0.out, HB1.out, HBB.out⟩
  case round =>
    obtain ⟨k, D, hk, rfl, rfl, hD, hj, h0, h1, hbt⟩ := hrel
    have H0 := Hid.mk' h0
    have H1 := Hid.mk' h1
    have HBT := Hid.mk' hbt
    have HJ := Hid.mk' hj
    have HD := Hid.mk' hD
    have hfr := h1.free k
    have hcell := h1.cell k
    clear h0 h1 hbt hj hD
    by_cases hlt : k < 255
    · have hlti : (k : Int) < 255 := by omega
      rw [u8s_get D k (by rw [HD.out]; exact hlt)] at hcell
      go_wp2_with fail
      refine Calls.mono (HT.out _ _) ?_
      rintro e w1 ⟨rfl, hw⟩
      have hw' := hw.symm
      subst hw'
      go_wp2
      refine ⟨⟨k + 1, D.set k (b8 (pw 3#8 k)), by omega, by go_num, rfl, by simp [HD.out], ?_, ?_, ?_, ?_⟩, by simp [intOf]; omega⟩
      · intro j hj
        by_cases hjk : j = k
        · subst hjk; rw [List.getElem?_set_self (by rw [HD.out]; exact hlt)]
        · rw [List.getElem?_set_ne (fun e => hjk e.symm)]; exact HJ.out j (by omega)
      · exact H0.out.but ((But.refl (· = g + 1) wr).setCell (fun _ => rfl) _) (by omega)
      · rw [← u8s_set]; exact H1.out.set k _
      · exact HBT.out.setCell (fun h => by have h' : g + 1 < w.heap.size := h; have := HG.out; omega) _
    · have hk5 : k = 255 := by omega
      subst hk5
      have e := gens_of HD.out HJ.out
      subst e
      clear hcell
      go_wp2_with (first
        | (refine wpList_load_u8s Try.underlying102 i255s rfl _ rfl (g + 1) gens gens_len rfl H1.out ?_)
        | (refine wpList_store_u8s i255s rfl _ _ rfl g gens gens_len rfl (by exact rfl) _ (by simp [u8s]) H0.out ?_; intro w2 hb2 hbut2))
      refine bodyPost_ret (results_cell_row rfl _ _ g _ _ _ _ rfl hb2 Try.underlying102 rfl (by rw [i255s]; simp [u8s, gens_len])) rfl ⟨rfl, ?_⟩
      exact HBT.out.then hbut2 (fun i hi e => by have := HG.out; omega)
end Go.Proofs.Ythmjdebnjcopnaa
/- The program's New. -/
namespace Go.Proofs.Ythmjdebnjcopnaa
open Go.RowKit

/-- What the cells hold of a byte. -/
def Tells (L : List Value) (a : B8) : Prop := L[b8 a]? = some (.int .u8 (b8 (bx a))) ∧ L[256 + b8 (bx a)]? = some (.int .u8 (b8 a)) ∧ L[512 + b8 a]? = some (.int .u32 (col (bx a) : Nat))
theorem told_keeps {L : List Value} {a c : B8} (h : Tells L a) (hn : a ≠ c) : Tells (told L c (bx c)) a := by
  obtain ⟨h0, h1, h2⟩ := h
  have ha := b8_lt a
  have hc := b8_lt c
  have hs := b8_lt (bx a)
  have ht := b8_lt (bx c)
  have n0 : b8 c ≠ b8 a := fun e => hn (b8_inj e.symm)
  have n1 : b8 (bx c) ≠ b8 (bx a) := fun e => hn (bx_inj (b8_inj e.symm))
  unfold told
  refine ⟨?_, ?_, ?_⟩
  · rw [List.getElem?_set_ne (by omega), List.getElem?_set_ne (by omega), List.getElem?_set_ne n0, h0]
  · rw [List.getElem?_set_ne (by omega), List.getElem?_set_ne (by omega), List.getElem?_set_ne (by omega), h1]
  · rw [List.getElem?_set_ne (by omega), List.getElem?_set_ne (by omega), List.getElem?_set_ne (by omega), h2]
theorem told_new {L : List Value} (hl : L.length = 768) (c : B8) : Tells (told L c (bx c)) c := by
  have hc := b8_lt c
  have ht := b8_lt (bx c)
  unfold told
  refine ⟨?_, ?_, ?_⟩
  · rw [List.getElem?_set_ne (by omega), List.getElem?_set_ne (by omega), List.getElem?_set_self (by omega)]
  · rw [List.getElem?_set_ne (by omega), List.getElem?_set_self (by simp; omega)]
  · rw [List.getElem?_set_self (by simp; omega)]
/-- Boxes in memory. -/
def Bxs (w : World) (g : Nat) : Prop := ∃ L, Blk w g 100 L ∧ L.length = 768 ∧ ∀ a, Tells L a
theorem Bxs.but {R : Nat → Prop} {w w' : World} {g : Nat} (h : Bxs w g) (k : But R w w') (hr : ¬ R g) : Bxs w' g := by
  obtain ⟨L, h0, h1, h2⟩ := h
  exact ⟨L, h0.but k hr, h1, h2⟩
theorem Bxs.lt {w : World} {g : Nat} (h : Bxs w g) : g < w.heap.size := by
  obtain ⟨L, h0, _⟩ := h
  exact h0.lt
theorem Bxs.box {w : World} {g : Nat} (h : Bxs w g) (a : B8) : w.cell? ⟨g, b8 a, none⟩ = some (.int .u8 (b8 (bx a))) := by
  obtain ⟨L, h0, _, h2⟩ := h
  rw [h0.cell]; exact (h2 a).1
theorem Bxs.back {w : World} {g : Nat} (h : Bxs w g) (a : B8) : w.cell? ⟨g, 256 + b8 a, none⟩ = some (.int .u8 (b8 (bk a))) := by
  obtain ⟨L, h0, _, h2⟩ := h
  have e := (h2 (bk a)).2.1
  rw [bx_bk] at e
  rw [h0.cell]; exact e
theorem Bxs.mix {w : World} {g : Nat} (h : Bxs w g) (a : B8) : w.cell? ⟨g, 512 + b8 a, none⟩ = some (.int .u32 (col (bx a) : Nat)) := by
  obtain ⟨L, h0, _, h2⟩ := h
  rw [h0.cell]; exact (h2 a).2.2
theorem Bxs.free {w : World} {g : Nat} (h : Bxs w g) (i : Nat) : w.frozen? ⟨g, i, none⟩ = false := by
  obtain ⟨L, h0, _⟩ := h
  exact h0.free i

theorem callSet (args : Array Value) (w : World) : (callFunc 56 args).run Try.prog w = .ok (.enter 56 args) w := by kernel_rfl
def zero768 : List Value := u8s (List.replicate 256 0) ++ (u8s (List.replicate 256 0) ++ List.replicate 256 (.int .u32 0))
theorem zero768_len : zero768.length = 768 := by
  unfold zero768; rw [List.length_append, List.length_append, u8s, List.length_map, List.length_replicate, List.length_replicate]
set_option maxRecDepth 100000 in
set_option maxHeartbeats 1000000 in
theorem new_any (w : World) :
    Calls Try.prog 35 #[] w fun e w' => e = .returned (.pointer (some ⟨w.heap.size, 0, none⟩)) ∧ Bxs w' w.heap.size ∧ But (fun _ => False) w w' := by
  have hz : ∀ w : World, (zeroValue 100).run Try.prog w = .ok (.agg zero768.toArray) w := fun _ => by kernel_rfl
  have hz2 : ∀ w : World, (zeroValue 102).run Try.prog w = .ok (.agg (u8s (List.replicate 255 0)).toArray) w := fun _ => by kernel_rfl
  obtain ⟨Z, hZ⟩ : ∃ Z, Z = zero768.toArray := ⟨_, rfl⟩
  obtain ⟨Y, hY⟩ : ∃ Y, Y = (u8s (List.replicate 255 0)).toArray := ⟨_, rfl⟩
  rw [← hZ] at hz
  rw [← hY] at hz2
  have HZ := Hid.mk' hZ
  have HY := Hid.mk' hY
  clear hZ hY
  have HB0 : Hid (Blk (w.alloc (.cells Z 100)) w.heap.size 100 zero768) := by rw [HZ.out]; exact Blk.new rfl
  have HS := Hid.mk' (set_any HB0.out zero768_len 0#8 0#8)
  rw [show aff 0#8 = bx 0#8 by unfold bx; rw [show inv 0#8 = 0#8 from inv_zero]] at HS
  have HBT0 : Hid (But (fun _ => False) w (w.alloc (.cells Z 100))) := (But.refl _ w).alloc _
  go_enter Try.func35, Try.ntmps35
  go_wp2_with fail
  refine Calls.mono HS.out ?_
  rintro e w1 ⟨rfl, hb1, hbut1⟩
  have HB1 := Hid.mk' hb1
  have HBT1 : Hid (But (fun _ => False) w w1) := HBT0.out.then hbut1 (fun i hi e => by omega)
  clear hb1 hbut1 HS HB0 HBT0 hz HZ
  go_wp2_with fail
  refine Calls.mono (generated_any w1) ?_
  rintro e w2 ⟨rfl, hbut2⟩
  have HB2 := Hid.mk' (HB1.out.but hbut2 (fun h => h))
  have HBT2 := Hid.mk' (HBT1.out.trans hbut2)
  clear hbut2 HB1 HBT1
  obtain ⟨G, hG⟩ : ∃ G, G = (u8s gens).toArray := ⟨_, rfl⟩
  rw [← hG]
  have HG := Hid.mk' hG
  clear hG
  have HP0 : Hid (Blk (w2.alloc (.cells Y 102)) w2.heap.size 102 (u8s (List.replicate 255 0))) := by rw [HY.out]; exact Blk.new rfl
  go_wp2_with (first
    | (refine wpList_store_u8s i255s rfl _ _ rfl w2.heap.size gens gens_len rfl (by show Value.agg G = _; rw [HG.out]) _ (by simp [u8s]) HP0.out ?_; intro w3 hb3 hbut3))
  have hlt2 := HBT2.out.size
  have hgx := HB2.out.lt
  have HB3 : Hid (Blk w3 w.heap.size 100 (told zero768 0#8 (bx 0#8))) := (HB2.out.but ((But.refl (fun _ => False) _).alloc _) (fun h => h)).but hbut3 (by omega)
  have HBT3 : Hid (But (fun _ => False) w w3) := (HBT2.out.alloc _).then hbut3 (fun i hi e => by omega)
  obtain ⟨p, hp⟩ : ∃ p, p = w2.heap.size := ⟨_, rfl⟩
  rw [← hp] at hb3 hlt2 hgx ⊢
  have HP3 := Hid.mk' hb3
  clear hb3 hbut3 hp HP0 HB2 HBT2 hz2 HY HG
  obtain ⟨g, hg⟩ : ∃ g, g = w.heap.size := ⟨_, rfl⟩
  rw [← hg] at HB3 hgx hlt2 ⊢
  have HGG := Hid.mk' hg
  clear hg
  go_loopw [9] (fun i wr => ∃ (k : Nat) (L : List Value), k ≤ 255 ∧ i = .int .i64 k ∧ L.length = 768 ∧ Tells L 0#8 ∧ (∀ j, j < k → Tells L (pw 3#8 j)) ∧ Blk wr g 100 L ∧ Blk wr p 102 (u8s gens) ∧ But (fun _ => False) w wr) (fun i _ => 255 - (intOf i).toNat)
  case atStart => exact ⟨0, told zero768 0#8 (bx 0#8), by decide, rfl, by rw [told_len]; exact zero768_len, told_new zero768_len 0#8, fun j hj => absurd hj (Nat.not_lt_zero _), HB3.out, HP3.out, HBT3.out⟩
  case round =>
    obtain ⟨k, L, hk, rfl, hL, ht0, htj, h0, h1, hbt⟩ := hrel
    have H0 := Hid.mk' h0
    have H1 := Hid.mk' h1
    have HBT := Hid.mk' hbt
    have HT0 := Hid.mk' ht0
    have HTJ := Hid.mk' htj
    have HL := Hid.mk' hL
    clear h0 h1 hbt ht0 htj hL
    by_cases hlt : k < 255
    · have hlti : (k : Int) < 255 := by omega
      obtain ⟨q, hq⟩ : ∃ q, q = (255 - k) % 255 := ⟨_, rfl⟩
      have hq1 : q < 255 := by omega
      obtain ⟨r, hr⟩ : ∃ r, 255 - k = r := ⟨_, rfl⟩
      have hwr : IntKind.i64.wrap (r : Int) = r := by simp [IntKind.wrap, IntKind.bits, IntKind.signed]; omega
      have hsub2 : (255 : Int) - k = r := by omega
      have hrem3 : (r : Int) % 255 = (q : Int) := by omega
      have hrem2 : Int.tmod (r : Int) 255 = (q : Int) := by rw [Int.tmod_eq_emod_of_nonneg (by omega)]; exact hrem3
      have hr2 : r ≤ 255 := by omega
      have hqi : (q : Int) < 255 := by omega
      have hc1 : wr.cell? ⟨p, k, none⟩ = some (.int .u8 (b8 (pw 3#8 k) : Nat)) := by
        rw [H1.out.cell, u8s_get gens k (by rw [gens_len]; exact hlt)]; simp [gens_at k hlt]
      have hc2 : wr.cell? ⟨p, q, none⟩ = some (.int .u8 (b8 (pw 3#8 q) : Nat)) := by
        rw [H1.out.cell, u8s_get gens q (by rw [gens_len]; exact hq1)]; simp [gens_at q hq1]
      have HI : Hid (pw 3#8 q = inv (pw 3#8 k)) := by rw [hq]; exact gen_inv k hlt
      clear hq hr
      have HS : Hid (∀ wx, But (fun _ => False) wr wx → Calls Try.prog 56 #[.pointer (some ⟨g, 0, none⟩), .int .u8 (b8 (pw 3#8 k) : Nat), .int .u8 (b8 (pw 3#8 q) : Nat)] wx fun e w' => e = .returned (.tuple #[]) ∧ Blk w' g 100 (told L (pw 3#8 k) (bx (pw 3#8 k))) ∧ But (· = g) wr w') := by
        intro wx hx
        refine Calls.mono (set_any (H0.out.but hx (fun h => h)) HL.out (pw 3#8 k) (pw 3#8 q)) ?_
        rintro e w' ⟨rfl, h1, h2⟩
        rw [HI.out] at h1
        exact ⟨rfl, h1, (hx.mono (fun _ _ h => h.elim)).trans h2⟩
      have HW : Hid (But (fun _ => False) wr wr) := But.refl _ wr
      go_wp2_with fail
      refine region_last (l := [_, _, _, _, _, _, _, _, _]) (o := _) (by kernel_rfl) (by kernel_rfl) (by kernel_rfl) rfl (by kernel_rfl) (by kernel_rfl) ?_
      repeat (quiet_step (fail))
      refine wpQuiet_nil ?_
      intro _ hw'
      obtain ⟨nq, hw''⟩ := hw'
      subst hw''
      refine op_call 56 [_, _, _] _ _ rfl rfl (callSet _ _) ?_
      refine Calls.mono (HS.out _ (⟨rfl, rfl, rfl, Nat.le_refl _, fun _ _ _ => rfl⟩)) ?_
      rintro e w4 ⟨rfl, hb4, hbut4⟩
      refine ⟨_, rfl, ?_⟩
      clear HS
      go_wp2
      refine ⟨⟨k + 1, told L (pw 3#8 k) (bx (pw 3#8 k)), by omega, by go_num, by rw [told_len]; exact HL.out, ?_, ?_, hb4, H1.out.but hbut4 (by omega), HBT.out.then hbut4 (fun i hi e => by have := HGG.out; omega)⟩, by simp [intOf]; omega⟩
      · by_cases e : (0#8 : B8) = pw 3#8 k
        · rw [← e]; exact told_new HL.out 0#8
        · exact told_keeps HT0.out e
      · intro j hj
        by_cases e : pw 3#8 j = pw 3#8 k
        · rw [e]; exact told_new HL.out _
        · refine told_keeps (HTJ.out j ?_) e
          rcases Nat.lt_or_ge j k with h | h
          · exact h
          · exact absurd (by rw [show j = k by omega]) e
    · have hk5 : k = 255 := by omega
      subst hk5
      go_wp2
      go_ret
      refine ⟨by rw [← HGG.out]; rfl, ⟨L, by rw [← HGG.out]; exact H0.out, HL.out, ?_⟩, HBT.out⟩
      intro a
      by_cases ha : a = 0#8
      · rw [ha]; exact HT0.out
      · obtain ⟨i, hi, rfl⟩ := gen_all a ha
        exact HTJ.out i hi
end Go.Proofs.Ythmjdebnjcopnaa
/- The program's Box, Back, Mix. -/
namespace Go.Proofs.Ythmjdebnjcopnaa
open Go.RowKit

theorem box_any {w : World} {g : Nat} (hb : Bxs w g) (a : B8) :
    Calls Try.prog 66 #[.pointer (some ⟨g, 0, none⟩), .int .u8 (b8 a)] w fun e w' => e = .returned (.int .u8 (b8 (bx a))) ∧ w' = w := by
  have hc := hb.box a
  have hf := hb.free (b8 a)
  have ha := b8_lt a
  clear hb
  go_enter Try.func66, Try.ntmps66
  go_wp2
  go_ret
  exact ⟨rfl, rfl⟩
theorem mix_any {w : World} {g : Nat} (hb : Bxs w g) (a : B8) :
    Calls Try.prog 65 #[.pointer (some ⟨g, 0, none⟩), .int .u8 (b8 a)] w fun e w' => e = .returned (.int .u32 (col (bx a) : Nat)) ∧ w' = w := by
  have hc := hb.mix a
  have hf := hb.free (512 + b8 a)
  have ha := b8_lt a
  clear hb
  go_enter Try.func65, Try.ntmps65
  go_wp2
  go_ret
  exact ⟨rfl, rfl⟩
theorem box_nil (a : Int) (w : World) :
    Calls Try.prog 66 #[.pointer none, .int .u8 a] w fun e w' => e = .returned (.int .u8 0) ∧ w' = w := by
  go_enter Try.func66, Try.ntmps66
  go_wp2
  go_ret
  exact ⟨rfl, rfl⟩
theorem mix_nil (a : Int) (w : World) :
    Calls Try.prog 65 #[.pointer none, .int .u8 a] w fun e w' => e = .returned (.int .u32 0) ∧ w' = w := by
  go_enter Try.func65, Try.ntmps65
  go_wp2
  go_ret
  exact ⟨rfl, rfl⟩
end Go.Proofs.Ythmjdebnjcopnaa
/- row: isSize, bytes.Clone, New, Left, Fault, End: the small ones. -/
namespace Go.Proofs.Ythmjdebnjcopnaa
open Go.RowKit

theorem nil_eql (w : World) (ao : Option Addr) (n cap : Nat) : Sem.run Try.prog (binOp .eql 22 (.slice ao n cap) (.slice none 0 0)) w = .ok (.bool ao.isNone) w := by
  have h := run_equal_slice_nil (P := Try.prog) w 22 5 ao n cap Try.underlying22
  simp [binOp, h]

theorem clone_any {v : Value} {xs : List Nat} {w : World} (hv : Bs w v xs) (hl : xs.length ≤ 140737488355328) :
    Calls Try.prog 81 #[v] w fun e w' => ∃ v', e = .returned v' ∧ Ow w' w.heap.size v' xs ∧ Below w.heap.size w w' := by
  obtain ⟨i0, hi, hz0, hz1, hz2⟩ := info_parts u8info
  have HV : Hid (Bs w v xs) := hv
  obtain ⟨ao, cap, rfl, hnone, _⟩ := hv.gen
  clear hv
  cases ao with
  | none =>
    obtain ⟨h0, rfl⟩ := hnone rfl
    have := List.eq_nil_of_length_eq_zero h0
    subst this
    clear hnone
    simp only [List.length_nil]
    have hn0 := nil_eql w none 0 0
    go_enter Try.func81, Try.ntmps81
    go_wp2
    go_ret
    exact ⟨_, rfl, Ow.nil _ _, Below.refl _ _⟩
  | some ad =>
    obtain ⟨n, hn⟩ : ∃ n, xs.length = n := ⟨_, rfl⟩
    have HN : Hid (xs.length = n) := hn
    have hlit : (w.alloc (.cells #[] 5)).ownsRow w.heap.size 5 1 (.slice (some ⟨w.heap.size, 0, none⟩) 0 0) 0 [] := by
      have := World.ownsRow_lit (base := w.heap.size) (size := 1) (e := 5) w #[] 0 (Nat.le_refl _) (by decide) rfl
      simpa using this
    have hb0 : Below w.heap.size w (w.alloc (.cells #[] 5)) := (Below.refl _ _).alloc (Nat.le_refl _) _
    rw [hn] at hl ⊢
    clear hn hnone
    have hn0 := nil_eql w (some ad) n cap
    go_enter Try.func81, Try.ntmps81
    go_wp2_with (at_builtin; refine wpList_append_own _ rfl _ _ 22 rfl w.heap.size 5 i0 (.int .u8 0) 1 1 Try.underlying22 hi hz0 hz1 hz2 rfl (by decide) _ _ _ rfl hlit ad n cap (u8s xs) rfl (by simp [u8s]; exact HN.out) ((HV.out.below hb0).cells ad rfl) (u8s_one xs) (by unfold maxLen; omega) (by omega) (by simp) ?_; intro v' w2 hown' hgrow' hnil')
    go_ret
    refine ⟨_, rfl, ⟨HV.out.1, HV.out.2.1, ?_⟩, ?_⟩
    · rw [HN.out]; simpa using hown'
    · exact hb0.grown hgrow' (by simp) (fun k hk => by have hk' : some w.heap.size = some k := hk; cases hk'; exact Nat.le_refl _)

theorem Ow.slice {w : World} {base : Nat} {v : Value} {zs : List Nat} (h : Ow w base v zs) : ∃ ao n cap, v = .slice ao n cap := by
  obtain ⟨ao, cap, e, _⟩ := h.bs.gen; exact ⟨_, _, _, e⟩

/-- The reader at block r: what is left to read, and its fault; og: the block of the bytes, if there is one. -/
structure Rd (w : World) (r : Nat) (og : Option Nat) (zs : List Nat) (f : Int) : Prop where
  ex : ∃ rest, w.heap[r]? = some (.cells #[rest, .int .i64 f] 125 (0, 0)) ∧ Bs w rest zs ∧ (∀ k, rest.ownBlock = some k → og = some k)
  og : ∀ g, og = some g → g ≠ r ∧ g < w.heap.size
  small : zs.length ≤ 140737488355328

theorem Rd.lt {w : World} {r : Nat} {og : Option Nat} {zs : List Nat} {f : Int} (h : Rd w r og zs f) : r < w.heap.size := by
  obtain ⟨rest, hh, _⟩ := h.ex; exact lt_of_block hh
theorem Rd.but {R : Nat → Prop} {w w' : World} {r : Nat} {og : Option Nat} {zs : List Nat} {f : Int} (h : Rd w r og zs f) (k : But R w w') (hr : ¬ R r) (hg : ∀ g, og = some g → ¬ R g) : Rd w' r og zs f := by
  have hl := h.lt
  obtain ⟨⟨rest, hh, hb, ho⟩, h2, h3⟩ := h
  refine ⟨⟨rest, (k.block r hl hr).trans hh, hb.but k (fun j e _ => hg j (ho j e)), ho⟩, fun g e => ⟨(h2 g e).1, Nat.lt_of_lt_of_le (h2 g e).2 k.size⟩, h3⟩
theorem Rd.below {w w' : World} {r : Nat} {og : Option Nat} {zs : List Nat} {f : Int} (h : Rd w r og zs f) (k : Below w.heap.size w w') : Rd w' r og zs f :=
  h.but (R := fun _ => False) (But.of k) (fun h => h) (fun _ _ h => h)

theorem reader_any {v : Value} {xs : List Nat} {w : World} (hv : Bs w v xs) (hl : xs.length ≤ 140737488355328) :
    Calls Try.prog 58 #[v] w fun e w' => ∃ r og, e = .returned (.pointer (some ⟨r, 0, none⟩)) ∧ w.heap.size ≤ r ∧ (∀ g, og = some g → w.heap.size ≤ g) ∧ Rd w' r og xs 0 ∧ Below w.heap.size w w' := by
  have HC : Hid (Calls Try.prog 81 #[v] w fun e w' => ∃ v', e = .returned v' ∧ Ow w' w.heap.size v' xs ∧ Below w.heap.size w w') := clone_any hv hl
  clear hv
  go_enter Try.func58, Try.ntmps58
  go_wp2_with (go_at_call 81; refine Calls.mono HC.out ?_; rintro e w1 ⟨v', rfl, hown, hbel⟩; obtain ⟨ao, n, cap, rfl⟩ := hown.slice)
  go_ret
  have h1 := hown.ge
  have hs := hbel.size
  refine ⟨w1.heap.size, (Value.slice ao n cap).ownBlock, rfl, hs, fun g e => (h1 g e).1, ⟨⟨_, heap_alloc_new _ _, (hown.alloc _).bs, fun k e => e⟩, ?_, hl⟩, hbel.alloc hs _⟩
  intro g e
  have := (h1 g e).2
  simp; omega

theorem ptr_eql (w : World) (p : Option Addr) : Sem.run Try.prog (binOp .eql 104 (.pointer p) (.pointer none)) w = .ok (.bool p.isNone) w := by
  have h := run_equal_pointer_nil (P := Try.prog) w 104 p (by kernel_rfl)
  simp [binOp, h]

theorem Rd.cells {w : World} {r : Nat} {og : Option Nat} {zs : List Nat} {f : Int} (h : Rd w r og zs f) : ∃ ao cap, w.cell? ⟨r, 0, none⟩ = some (.slice ao zs.length cap) ∧ w.cell? ⟨r, 1, none⟩ = some (.int .i64 f) ∧
    w.frozen? ⟨r, 0, none⟩ = false ∧ w.frozen? ⟨r, 1, none⟩ = false ∧ Bs w (.slice ao zs.length cap) zs ∧ (∀ k, (Value.slice ao zs.length cap).ownBlock = some k → og = some k) := by
  obtain ⟨⟨rest, hh, hb, ho⟩, _, _⟩ := h
  obtain ⟨ao, cap, rfl, _⟩ := hb.gen
  refine ⟨ao, cap, ?_, ?_, frozen_of_row w r 0 _ _ hh, frozen_of_row w r 1 _ _ hh, hb, ho⟩
  · rw [cell_of_row w r 0 _ _ _ hh]; rfl
  · rw [cell_of_row w r 1 _ _ _ hh]; rfl

theorem fault_any {w : World} {r : Nat} {og : Option Nat} {zs : List Nat} {f : Int} (h : Rd w r og zs f) :
    Calls Try.prog 93 #[.pointer (some ⟨r, 0, none⟩)] w fun e w' => e = .returned (.int .i64 f) ∧ w' = w := by
  obtain ⟨ao, cap, c0, c1, _⟩ := h.cells
  have hp := ptr_eql w (some ⟨r, 0, none⟩)
  go_enter Try.func93, Try.ntmps93
  go_wp2
  go_ret
  exact ⟨rfl, rfl⟩
theorem fault_nil (w : World) : Calls Try.prog 93 #[.pointer none] w fun e w' => e = .returned (.int .i64 5) ∧ w' = w := by
  have hp := ptr_eql w none
  go_enter Try.func93, Try.ntmps93
  go_wp2
  go_ret
  exact ⟨rfl, rfl⟩
end Go.Proofs.Ythmjdebnjcopnaa
/- row: next, and the steps of a reader: they give up by a panic, which is caught. -/
namespace Go.Proofs.Ythmjdebnjcopnaa
open Go.RowKit

theorem next_some {w : World} {r : Nat} (a : Addr) (n l cap : Nat) (hn : n ≤ l) (hcap : l ≤ cap) (hc : w.cell? ⟨r, 0, none⟩ = some (.slice (some a) l cap)) (hz : w.frozen? ⟨r, 0, none⟩ = false) :
    Calls Try.prog 85 #[.pointer (some ⟨r, 0, none⟩), .int .i64 n] w fun e w' => e = .returned (.slice (some a) n cap) ∧
      ∃ a', w' = w.setCell ⟨r, 0, none⟩ (.slice (some a') (l - n) (cap - n)) ∧ (a' = a.add n ∨ (a' = a ∧ n = l)) := by
  go_enter Try.func85, Try.ntmps85
  go_wp2
  all_goals go_ret
  · exact ⟨rfl, a, by simp, .inr ⟨rfl, by omega⟩⟩
  · exact ⟨rfl, _, rfl, .inl rfl⟩
theorem next_none {w : World} {r : Nat} (hc : w.cell? ⟨r, 0, none⟩ = some (.slice none 0 0)) (hz : w.frozen? ⟨r, 0, none⟩ = false) :
    Calls Try.prog 85 #[.pointer (some ⟨r, 0, none⟩), .int .i64 0] w fun e w' => e = .returned (.slice none 0 0) ∧ w' = w.setCell ⟨r, 0, none⟩ (.slice none 0 0) := by
  go_enter Try.func85, Try.ntmps85
  go_wp2
  go_ret
  exact ⟨rfl, rfl⟩
theorem next_short {w : World} {r : Nat} (ao : Option Addr) (l cap : Nat) (n : Int) (hn : l < n) (hc : w.cell? ⟨r, 0, none⟩ = some (.slice ao l cap)) :
    Calls Try.prog 85 #[.pointer (some ⟨r, 0, none⟩), .int .i64 n] w fun e w' => e = .panicked [{ v := .iface 25 (.int .i64 2), recovered := false }] ∧ w' = w := by
  go_enter Try.func85, Try.ntmps85
  go_wp2
  exact ⟨rfl, rfl, rfl⟩

theorem errinfo : (Try.prog.info? 25).map (fun i => (i.zero, i.size, i.bytes)) = some (some (.int .i64 0), 1, 8) := by kernel_rfl
theorem errnil (w : World) (c : Int) : Sem.run Try.prog (Instr.typeAssert (.iface 25 (.int .i64 c)) 20 25 true) w = .ok (.tuple #[.int .i64 c, .bool true]) w := by
  simp [Instr.typeAssert, go_sem]
theorem errnone (w : World) : Sem.run Try.prog (Instr.typeAssert .nilIface 20 25 true) w = .ok (.tuple #[.int .i64 0, .bool false]) w := by
  obtain ⟨i0, hi, hz0, hz1, hz2⟩ := info_parts errinfo
  simp [Instr.typeAssert, go_sem, zeroValue, typeInfo, hi, hz0]
theorem caught (p : Addr) (r : Nat) (c : Int) (x y : Value) (w : World) (hp : w.cell? p = some (.pointer (some ⟨r, 0, none⟩))) (h0 : w.cell? ⟨r, 0, none⟩ = some x) (z0 : w.frozen? ⟨r, 0, none⟩ = false) (h1 : w.cell? ⟨r, 1, none⟩ = some y) (z1 : w.frozen? ⟨r, 1, none⟩ = false) :
    CallsD Try.prog 94 #[.pointer (some p)] (.panicking ({ v := .iface 25 (.int .i64 c), recovered := false } :: [])) w fun e u' w' =>
      e = .returned (.tuple #[]) ∧ u' = .panicking ({ v := .iface 25 (.int .i64 c), recovered := true } :: []) ∧ w' = (w.setCell ⟨r, 0, none⟩ (.slice none 0 0)).setCell ⟨r, 1, none⟩ (.int .i64 c) := by
  refine callsD_of_wpS Try.func94 rfl fun c₀ cs hu => ?_
  apply wpS_seq
  apply wpS_region
  simp [wpOpsS, go_sem, recoverD, hu, errnil, Try.ntmps94, Exit.thenS]
  refine wpS_of_wp ?_
  simp [Array.replicate]
  go_wp2
  simp [bodyPostS, results, Try.results94]

theorem idle (p : Addr) (w : World) :
    CallsD Try.prog 94 #[.pointer (some p)] .returning w fun e u' w' => e = .returned (.tuple #[]) ∧ u' = .returning ∧ w' = w := by
  refine callsD_of_wpS Try.func94 rfl fun c₀ cs hu => ?_
  apply wpS_seq
  apply wpS_region
  simp [wpOpsS, go_sem, recoverD, hu, errnone, Try.ntmps94, Exit.thenS]
  refine wpS_of_wp ?_
  simp [Array.replicate]
  go_wp2
  cases c₀
  simp_all [bodyPostS, results, Try.results94]

/-- The world behind a fault c of the reader at r. -/
def down (w : World) (r : Nat) (c : Int) : World := (w.setCell ⟨r, 0, none⟩ (.slice none 0 0)).setCell ⟨r, 1, none⟩ (.int .i64 c)

theorem attempt_faulty {w : World} {r : Nat} {og : Option Nat} {zs : List Nat} {f : Int} (h : Rd w r og zs f) (hf : f ≠ 0) (fv : Value) :
    Calls Try.prog 82 #[.pointer (some ⟨r, 0, none⟩), fv] w fun e w' => e = .returned (.tuple #[]) ∧ Below w.heap.size w w' := by
  have hb : Below w.heap.size w (w.alloc (.cells #[.pointer (some ⟨r, 0, none⟩)] 104)) := (Below.refl _ _).alloc (Nat.le_refl _) _
  have HF : Hid (Calls Try.prog 93 #[.pointer (some ⟨r, 0, none⟩)] (w.alloc (.cells #[.pointer (some ⟨r, 0, none⟩)] 104)) fun e w' => e = .returned (.int .i64 f) ∧ w' = w.alloc (.cells #[.pointer (some ⟨r, 0, none⟩)] 104)) := fault_any (h.below hb)
  clear h
  go_enter_defers Try.func82, Try.ntmps82
  go_wp2_with (go_at_call 93; refine Calls.mono HF.out ?_; rintro e w' ⟨rfl, rfl⟩)
  exact ⟨_, results_none rfl _ _ _, rfl, hb⟩
theorem attempt_nil (w : World) (fv : Value) :
    Calls Try.prog 82 #[.pointer none, fv] w fun e w' => e = .returned (.tuple #[]) ∧ Below w.heap.size w w' := by
  have hb : Below w.heap.size w (w.alloc (.cells #[.pointer none] 104)) := (Below.refl _ _).alloc (Nat.le_refl _) _
  go_enter_defers Try.func82, Try.ntmps82
  go_wp2_with (go_at_call 93; refine (fault_nil _).mono ?_; rintro e w' ⟨rfl, rfl⟩)
  exact ⟨_, results_none rfl _ _ _, rfl, hb⟩

theorem attempt_num {w : World} {r : Nat} {og : Option Nat} {zs : List Nat} {Q : World → Prop} (h : Rd w r og zs 0) (p0 p1 p2 : Value)
    (H : Calls Try.prog 83 #[p0, p1, p2] (w.alloc (.cells #[.pointer (some ⟨r, 0, none⟩)] 104)) fun e w' => e = .returned (.tuple #[]) ∧ Q w') :
    Calls Try.prog 82 #[.pointer (some ⟨r, 0, none⟩), .func (.func 83) #[] #[p0, p1, p2]] w fun e w' => e = .returned (.tuple #[]) ∧ Q w' := by
  have hb : Below w.heap.size w (w.alloc (.cells #[.pointer (some ⟨r, 0, none⟩)] 104)) := (Below.refl _ _).alloc (Nat.le_refl _) _
  have HF : Hid (Calls Try.prog 93 #[.pointer (some ⟨r, 0, none⟩)] (w.alloc (.cells #[.pointer (some ⟨r, 0, none⟩)] 104)) fun e w' => e = .returned (.int .i64 0) ∧ w' = w.alloc (.cells #[.pointer (some ⟨r, 0, none⟩)] 104)) := fault_any (h.below hb)
  have HS : Hid (Calls Try.prog 83 #[p0, p1, p2] (w.alloc (.cells #[.pointer (some ⟨r, 0, none⟩)] 104)) fun e w' => e = .returned (.tuple #[]) ∧ Q w') := H
  clear h H
  have hmf : ∀ (fn : Fn) (first cap : Array Value) (w : World), (Instr.makeFunc fn first cap).run Try.prog w = .ok (.func fn first cap) w := fun _ _ _ _ => rfl
  go_enter_defers Try.func82, Try.ntmps82
  go_wp2_with (first
    | (go_at_call 93; refine Calls.mono HF.out ?_; rintro e w' ⟨rfl, rfl⟩)
    | (go_at_call 83; refine Calls.mono HS.out ?_; rintro e w' ⟨rfl, hq⟩))
  refine leaves_cons (f := 94) (args := #[.pointer (some ⟨w.heap.size, 0, none⟩)]) (by simp) (by simp [go_sem]) ?_
  refine (idle _ _).mono ?_
  rintro e u' w'' ⟨rfl, rfl, rfl⟩
  exact ⟨_, results_none rfl _ _ _, rfl, hq⟩

theorem attempt_num_not {w : World} {r : Nat} {og : Option Nat} {zs : List Nat} (h : Rd w r og zs 0) (p0 p1 p2 : Value) (c : Int)
    (H : Calls Try.prog 83 #[p0, p1, p2] (w.alloc (.cells #[.pointer (some ⟨r, 0, none⟩)] 104)) fun e w' => e = .panicked [{ v := .iface 25 (.int .i64 c), recovered := false }] ∧ w' = w.alloc (.cells #[.pointer (some ⟨r, 0, none⟩)] 104)) :
    Calls Try.prog 82 #[.pointer (some ⟨r, 0, none⟩), .func (.func 83) #[] #[p0, p1, p2]] w fun e w' => e = .returned (.tuple #[]) ∧ w' = down (w.alloc (.cells #[.pointer (some ⟨r, 0, none⟩)] 104)) r c := by
  have hb : Below w.heap.size w (w.alloc (.cells #[.pointer (some ⟨r, 0, none⟩)] 104)) := (Below.refl _ _).alloc (Nat.le_refl _) _
  have HF : Hid (Calls Try.prog 93 #[.pointer (some ⟨r, 0, none⟩)] (w.alloc (.cells #[.pointer (some ⟨r, 0, none⟩)] 104)) fun e w' => e = .returned (.int .i64 0) ∧ w' = w.alloc (.cells #[.pointer (some ⟨r, 0, none⟩)] 104)) := fault_any (h.below hb)
  have HS : Hid (Calls Try.prog 83 #[p0, p1, p2] (w.alloc (.cells #[.pointer (some ⟨r, 0, none⟩)] 104)) fun e w' => e = .panicked [{ v := .iface 25 (.int .i64 c), recovered := false }] ∧ w' = w.alloc (.cells #[.pointer (some ⟨r, 0, none⟩)] 104)) := H
  obtain ⟨ao, cap, c0, c1, z0, z1, _, _⟩ := (h.below hb).cells
  clear h H
  have hmf : ∀ (fn : Fn) (first cap : Array Value) (w : World), (Instr.makeFunc fn first cap).run Try.prog w = .ok (.func fn first cap) w := fun _ _ _ _ => rfl
  have HC := caught ⟨w.heap.size, 0, none⟩ r c _ _ (w.alloc (.cells #[.pointer (some ⟨r, 0, none⟩)] 104)) (by simp [go_sem]) c0 z0 c1 z1
  go_enter_defers Try.func82, Try.ntmps82
  go_wp2_with (first
    | (go_at_call 93; refine Calls.mono HF.out ?_; rintro e w' ⟨rfl, rfl⟩)
    | (go_at_call 83; refine Calls.mono HS.out ?_; rintro e w' ⟨rfl, rfl⟩))
  refine leaves_cons (f := 94) (args := #[.pointer (some ⟨w.heap.size, 0, none⟩)]) (by simp) (by simp [go_sem]) ?_
  refine HC.mono ?_
  rintro e u' w'' ⟨rfl, rfl, rfl⟩
  simp [Leaves, settle, results, Try.results82, go_sem, down]
end Go.Proofs.Ythmjdebnjcopnaa
