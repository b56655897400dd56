/- ghash: elements: sums, masks, times x. -/
import Derived.Test.YtpdkdeebdhdhgaaGhashWords
import Derived.Test.YtpdkdeebdhdhgaaPuts
namespace Go.Proofs.Ytpdkdeebdhdhgaa
open Go.RowKit

def n6 (x : W64) : Nat := x.toNat
theorem n6_lt (x : W64) : n6 x < 18446744073709551616 := x.isLt
theorem xor_n6 (a b : W64) : bits .xor .u64 (n6 a : Int) (n6 b : Int) = (n6 (a ^^^ b) : Int) := by
  rw [u64_xor_nat _ _ (n6_lt a) (n6_lt b)]; unfold n6; rw [BitVec.toNat_xor]
theorem and_n6 (a b : W64) : bits .and .u64 (n6 a : Int) (n6 b : Int) = (n6 (a &&& b) : Int) := by
  rw [u64_and_nat _ _ (n6_lt a) (n6_lt b)]; unfold n6; rw [BitVec.toNat_and]
theorem or_n6 (a b : W64) : bits .or .u64 (n6 a : Int) (n6 b : Int) = (n6 (a ||| b) : Int) := by
  rw [u64_or_nat _ _ (n6_lt a) (n6_lt b)]; unfold n6; rw [BitVec.toNat_or]
theorem shr_n6 (a : W64) (k : Nat) : (n6 a : Int) / 2 ^ k = (n6 (a >>> k) : Int) := by
  unfold n6; rw [BitVec.toNat_ushiftRight, Nat.shiftRight_eq_div_pow]; simp
theorem shl_n6 (a : W64) (k : Nat) : IntKind.u64.wrap ((n6 a : Int) * 2 ^ k) = (n6 (a <<< k) : Int) := by
  rw [IntKind.wrap_u64]; unfold n6; rw [BitVec.toNat_shiftLeft, Nat.shiftLeft_eq]
  have e : ((a.toNat : Int) * 2 ^ k) = ((a.toNat * 2 ^ k : Nat) : Int) := by simp
  rw [e]; omega
/-- Two words, as an element's cells. -/
def el (x y : W64) : List Value := [.int .u64 (n6 x : Int), .int .u64 (n6 y : Int)]
def ev (g : G) : List Value := el (fw g) (sw g)
theorem i39 : (Try.prog.info? 39).map (·.size) = some 2 := by kernel_rfl
theorem ret_el {fn : Func} {p : Tmp} (h : fn.results = #[.cell p 39]) (tmps : Array Value) (w : World) (g : Nat) (T : TypeId) (x y : Value) (hp : tmps.getD p undef = .pointer (some ⟨g, 0, none⟩)) (hg : Blk w g T [x, y]) :
    (results fn tmps).run Try.prog w = .ok (.agg #[x, y]) w :=
  results_cell_row h tmps w g T #[x, y] (0, 0) _ hp hg Try.underlying39 rfl (by rw [i39]; rfl)
set_option maxRecDepth 100000 in
set_option maxHeartbeats 1000000 in
theorem plus_w {w : World} (x y p q : W64) :
    Calls Try.prog 27 #[.agg #[.int .u64 (n6 x : Int), .int .u64 (n6 y : Int)], .agg #[.int .u64 (n6 p : Int), .int .u64 (n6 q : Int)]] w fun e w' => e = .returned (.agg #[.int .u64 (n6 (x ^^^ p) : Int), .int .u64 (n6 (y ^^^ q) : Int)]) ∧ But (fun _ => False) w w' := by
  have h1 := xor_n6 x p
  have h2 := xor_n6 y q
  go_enter Try.func27, Try.ntmps27
  go_wp2
  refine bodyPost_ret (ret_el rfl _ _ (w.heap.size + 1 + 1) 39 _ _ rfl (Blk.new (L := [_, _]) (by simp))) rfl ⟨rfl, (((But.refl _ w).alloc _).alloc _).alloc _⟩
set_option maxRecDepth 100000 in
set_option maxHeartbeats 1000000 in
theorem masked_w {w : World} (x y p : W64) :
    Calls Try.prog 33 #[.agg #[.int .u64 (n6 x : Int), .int .u64 (n6 y : Int)], .int .u64 (n6 p : Int)] w fun e w' => e = .returned (.agg #[.int .u64 (n6 (x &&& p) : Int), .int .u64 (n6 (y &&& p) : Int)]) ∧ But (fun _ => False) w w' := by
  have h1 := and_n6 x p
  have h2 := and_n6 y p
  go_enter Try.func33, Try.ntmps33
  go_wp2
  refine bodyPost_ret (ret_el rfl _ _ (w.heap.size + 1) 39 _ _ rfl (Blk.new (L := [_, _]) (by simp))) rfl ⟨rfl, ((But.refl _ w).alloc _).alloc _⟩
theorem top_bit (n : W64) : n.getLsbD 63 = decide (9223372036854775808 ≤ n6 n) := by
  have h : n.getLsbD 63 = n.msb := by rw [BitVec.msb_eq_getLsbD_last]
  rw [h, BitVec.msb_eq_decide]; rfl
set_option maxRecDepth 100000 in
theorem spread_w {w : World} (n : W64) :
    Calls Try.prog 34 #[.int .u64 (n6 n : Int)] w fun e w' => e = .returned (.int .u64 (n6 (msk (n.getLsbD 63)) : Int)) ∧ w' = w := by
  have hlt := n6_lt n
  rw [top_bit]
  obtain ⟨N, hN⟩ : ∃ N, N = n6 n := ⟨_, rfl⟩
  rw [← hN] at hlt ⊢
  clear hN
  by_cases h : 9223372036854775808 ≤ N
  · rw [decide_eq_true h, show n6 (msk true) = 18446744073709551615 by decide]
    have hc : IntKind.i64.wrap (N : Int) = (N : Int) - 18446744073709551616 := by rw [IntKind.wrap_i64]; omega
    obtain ⟨V, hV⟩ : ∃ V, V = (N : Int) - 18446744073709551616 := ⟨_, rfl⟩
    rw [← hV] at hc
    have hd : V / 9223372036854775808 = -1 := by omega
    have hw : IntKind.u64.wrap (-1) = 18446744073709551615 := by decide
    clear hV h hlt
    go_enter Try.func34, Try.ntmps34
    go_wp2
    go_ret
    exact ⟨rfl, rfl⟩
  · rw [decide_eq_false h, show n6 (msk false) = 0 by decide]
    have hc : IntKind.i64.wrap (N : Int) = (N : Int) := by rw [IntKind.wrap_i64]; omega
    have hd : (N : Int) / 9223372036854775808 = 0 := by omega
    clear h hlt
    go_enter Try.func34, Try.ntmps34
    go_wp2
    go_ret
    exact ⟨rfl, rfl⟩
theorem low_bit (y : W64) : y &&& 1#64 = cx (y.getLsbD 0) 1#64 := by
  apply BitVec.eq_of_getLsbD_eq
  intro j hj
  rw [BitVec.getLsbD_and]
  by_cases h : j = 0
  · subst h
    cases y.getLsbD 0
    · simp [cx]
    · simp [cx]
  · have e : (1#64).getLsbD j = false := by
      rw [BitVec.getLsbD_one]; simp; omega
    rw [e]
    cases y.getLsbD 0
    · simp [cx]
    · simp only [cx, if_true, e, Bool.and_false]
set_option maxRecDepth 100000 in
set_option maxHeartbeats 1000000 in
theorem timesX_w {w : World} (x y : W64) :
    Calls Try.prog 32 #[.agg #[.int .u64 (n6 x : Int), .int .u64 (n6 y : Int)]] w fun e w' => e = .returned (.agg #[.int .u64 (n6 ((x >>> 1) ^^^ cx (y.getLsbD 0) 0xe100000000000000#64) : Int), .int .u64 (n6 (x <<< 63 ||| y >>> 1) : Int)]) ∧ But (fun _ => False) w w' := by
  have h1 := shr_n6 x 1
  have h2 := shr_n6 y 1
  rw [show (2 : Int) ^ 1 = 2 by rfl] at h1 h2
  have h3 : IntKind.u64.wrap ((n6 x : Int) * 9223372036854775808) = (n6 (x <<< 63) : Int) := shl_n6 x 63
  have h4 := or_n6 (x <<< 63) (y >>> 1)
  cases hb : y.getLsbD 0
  · have h5 : bits .and .u64 (n6 y : Int) 1 = 0 := by
      have h := and_n6 y 1#64
      rw [low_bit, hb] at h
      exact h
    have h6 : bits .xor .u64 (n6 (x >>> 1) : Int) 0 = (n6 ((x >>> 1) ^^^ cx false 0xe100000000000000#64) : Int) := xor_n6 (x >>> 1) 0#64
    clear hb
    go_enter Try.func32, Try.ntmps32
    go_wp2
    refine bodyPost_ret (ret_el rfl _ _ (w.heap.size + 1) 39 _ _ rfl (Blk.new (L := [_, _]) (by simp))) rfl ⟨rfl, ((But.refl _ w).alloc _).alloc _⟩
  · have h5 : bits .and .u64 (n6 y : Int) 1 = 1 := by
      have h := and_n6 y 1#64
      rw [low_bit, hb] at h
      exact h
    have h6 : bits .xor .u64 (n6 (x >>> 1) : Int) 16212958658533785600 = (n6 ((x >>> 1) ^^^ cx true 0xe100000000000000#64) : Int) := xor_n6 (x >>> 1) 16212958658533785600#64
    clear hb
    go_enter Try.func32, Try.ntmps32
    go_wp2
    refine bodyPost_ret (ret_el rfl _ _ (w.heap.size + 1) 39 _ _ rfl (Blk.new (L := [_, _]) (by simp))) rfl ⟨rfl, ((But.refl _ w).alloc _).alloc _⟩
/-- The same, of elements. -/
theorem plus_any {w : World} (a b : G) : Calls Try.prog 27 #[.agg (ev a).toArray, .agg (ev b).toArray] w fun e w' => e = .returned (.agg (ev (a ^^^ b)).toArray) ∧ But (fun _ => False) w w' := by
  have h := plus_w (w := w) (fw a) (sw a) (fw b) (sw b)
  rw [← fw_xor, ← sw_xor] at h
  exact h
theorem masked_any {w : World} (a : G) (b : Bool) : Calls Try.prog 33 #[.agg (ev a).toArray, .int .u64 (n6 (msk b) : Int)] w fun e w' => e = .returned (.agg (ev (cx b a)).toArray) ∧ But (fun _ => False) w w' := by
  have h := masked_w (w := w) (fw a) (sw a) (msk b)
  rw [← fw_msk, ← sw_msk] at h
  exact h
theorem timesX_any {w : World} (a : G) : Calls Try.prog 32 #[.agg (ev a).toArray] w fun e w' => e = .returned (.agg (ev (mx a)).toArray) ∧ But (fun _ => False) w w' := by
  have h := timesX_w (w := w) (fw a) (sw a)
  rw [← fw_mx, ← sw_mx] at h
  exact h
end Go.Proofs.Ytpdkdeebdhdhgaa
