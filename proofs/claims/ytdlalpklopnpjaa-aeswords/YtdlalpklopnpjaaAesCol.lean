/- The program's columnOf, number, RotateLeft32 of a column: four bytes as one number. -/
import Derived.Test.YtdlalpklopnpjaaAesMath
import Derived.Test.YtdlalpklopnpjaaBlocks
namespace Go.Proofs.Ytdlalpklopnpjaa
open Go.RowKit

/-- Four bytes as a number, the first one the highest. -/
def num4 (a b c d : B8) : Nat := b8 a * 16777216 + b8 b * 65536 + b8 c * 256 + b8 d
theorem num4_lt (a b c d : B8) : num4 a b c d < 4294967296 := by
  have := b8_lt a; have := b8_lt b; have := b8_lt c; have := b8_lt d
  unfold num4; omega
theorem num4_bv (a b c d : B8) : num4 a b c d = (a ++ b ++ c ++ d).toNat := by
  have ha := b8_lt a; have hb := b8_lt b; have hc := b8_lt c; have hd := b8_lt d
  unfold num4
  unfold b8 at *
  simp only [BitVec.toNat_append]
  rw [← Nat.shiftLeft_add_eq_or_of_lt (b := d.toNat) (i := 8) hd, ← Nat.shiftLeft_add_eq_or_of_lt (b := c.toNat) (i := 8) hc, ← Nat.shiftLeft_add_eq_or_of_lt (b := b.toNat) (i := 8) hb]
  simp only [Nat.shiftLeft_eq]
  omega
theorem xor4n (a b c d a' b' c' d' : B8) : bits .xor .u32 (num4 a b c d : Int) (num4 a' b' c' d' : Int) = (num4 (a ^^^ a') (b ^^^ b') (c ^^^ c') (d ^^^ d') : Int) := by
  rw [u32_xor_nat _ _ (num4_lt _ _ _ _) (num4_lt _ _ _ _), num4_bv, num4_bv, num4_bv, ← BitVec.xor_append, ← BitVec.xor_append, ← BitVec.xor_append, BitVec.toNat_xor]
theorem or_high (k K x z X : Nat) (hk : K = 2 ^ k) (hX : X = x * K) (hx : X < 4294967296) (hz : z < K) (hK : K ≤ 4294967296) : bits .or .u32 (X : Int) (z : Int) = ((X + z : Nat) : Int) := by
  rw [u32_or_nat _ _ hx (by omega), hX, hk, ← Nat.shiftLeft_eq, ← Nat.shiftLeft_add_eq_or_of_lt (by omega)]
theorem or_num4 (a b c d : B8) : bits .or .u32 (bits .or .u32 (bits .or .u32 ((b8 a : Int) * 16777216) ((b8 b : Int) * 65536)) ((b8 c : Int) * 256)) (b8 d : Int) = (num4 a b c d : Int) := by
  have ha := b8_lt a; have hb := b8_lt b; have hc := b8_lt c; have hd := b8_lt d
  unfold num4
  generalize b8 a = p at *; generalize b8 b = q at *; generalize b8 c = r at *; generalize b8 d = t at *
  have e1 : bits .or .u32 ((p : Int) * 16777216) ((q : Int) * 65536) = ((p * 16777216 + q * 65536 : Nat) : Int) := or_high 24 16777216 p (q * 65536) (p * 16777216) (by decide) rfl (by omega) (by omega) (by decide)
  have e2 : bits .or .u32 ((p * 16777216 + q * 65536 : Nat) : Int) ((r : Int) * 256) = ((p * 16777216 + q * 65536 + r * 256 : Nat) : Int) := or_high 16 65536 (p * 256 + q) (r * 256) _ (by decide) (by omega) (by omega) (by omega) (by decide)
  rw [e1, e2]
  exact or_high 8 256 (p * 65536 + q * 256 + r) t _ (by decide) (by omega) (by omega) (by omega) (by decide)
theorem i55 : (Try.prog.info? 55).map (·.size) = some 4 := by kernel_rfl
/-- A column as a value. -/
abbrev colV (a b c d : B8) : Value := .agg (u8s (nts [a, b, c, d])).toArray
theorem columnOf_any (a b c d : B8) (w : World) :
    Calls Try.prog 43 #[.int .u32 (num4 a b c d : Nat)] w fun e w' => e = .returned (colV a b c d) ∧ But (fun _ => False) w w' := by
  have hN := num4_lt a b c d
  have ha := b8_lt a; have hb := b8_lt b; have hc := b8_lt c; have hd := b8_lt d
  obtain ⟨N, hNe⟩ : ∃ N, N = num4 a b c d := ⟨_, rfl⟩
  rw [← hNe] at hN ⊢
  have e1 : Hid ((N : Int) / 16777216 = (b8 a : Int)) := by show _ = _; rw [hNe]; unfold num4; omega
  have e2 : Hid ((N : Int) / 65536 % 256 = (b8 b : Int)) := by show _ = _; rw [hNe]; unfold num4; omega
  have e3 : Hid ((N : Int) / 256 % 256 = (b8 c : Int)) := by show _ = _; rw [hNe]; unfold num4; omega
  have e4 : Hid ((N : Int) % 256 = (b8 d : Int)) := by show _ = _; rw [hNe]; unfold num4; omega
  clear hNe ha hb hc hd
  go_enter Try.func43, Try.ntmps43
  go_wp2
  rw [e1.out, e2.out, e3.out, e4.out]
  refine bodyPost_ret (results_cell_row rfl _ _ w.heap.size _ _ _ _ rfl (heap_alloc_new _ _) Try.underlying55 rfl (by rw [i55]; rfl)) rfl ⟨rfl, (But.refl _ w).alloc _⟩
theorem number_any (a b c d : B8) (w : World) :
    Calls Try.prog 44 #[colV a b c d] w fun e w' => e = .returned (.int .u32 (num4 a b c d : Nat)) ∧ But (fun _ => False) w w' := by
  have ha := b8_lt a; have hb := b8_lt b; have hc := b8_lt c; have hd := b8_lt d
  have ho := Hid.mk' (or_num4 a b c d)
  have hB : Blk (w.alloc (.cells (u8s (nts [a, b, c, d])).toArray 55)) w.heap.size 55 (u8s (nts [a, b, c, d])) := Blk.new rfl
  have c0 := blk_nts hB 0 (by simp)
  have c1 := blk_nts hB 1 (by simp)
  have c2 := blk_nts hB 2 (by simp)
  have c3 := blk_nts hB 3 (by simp)
  rw [show at8 [a, b, c, d] 0 = a from rfl] at c0
  rw [show at8 [a, b, c, d] 1 = b from rfl] at c1
  rw [show at8 [a, b, c, d] 2 = c from rfl] at c2
  rw [show at8 [a, b, c, d] 3 = d from rfl] at c3
  clear hB
  go_enter Try.func44, Try.ntmps44
  go_wp2
  go_ret
  refine ⟨?_, (But.refl _ w).alloc _⟩
  rw [← ho.out]; rfl
/-- A column turned by so many bytes. -/
theorem rot_or (k K m M X Y N : Nat) (hK : K = 2 ^ k) (hM : M = 2 ^ m) (h1 : N * K % 4294967296 = X * K) (h2 : N / M = Y) (hx : X * K < 4294967296) (hy : Y < K) (hk : K ≤ 4294967296) :
    bits .or .u32 ((N : Int) * 2 ^ k % 4294967296) ((N : Int) / 2 ^ m) = ((X * K + Y : Nat) : Int) := by
  have e1 : (N : Int) * 2 ^ k % 4294967296 = ((X * K : Nat) : Int) := by
    rw [← h1, hK]; simp
  have e2 : (N : Int) / 2 ^ m = (Y : Int) := by rw [← h2, hM]; simp
  rw [e1, e2]
  exact or_high k K X Y (X * K) hK rfl hx hy hk
theorem rotn_any (N R n m : Nat) (_hN : N < 4294967296) (h1 : 1 ≤ n) (h2 : n ≤ 31) (hm : m = 32 - n) (hr : bits .or .u32 ((N : Int) * 2 ^ m % 4294967296) ((N : Int) / 2 ^ n) = (R : Int)) (w : World) :
    Calls Try.prog 47 #[.int .u32 N, .int .i64 (-(n : Int))] w fun e w' => e = .returned (.int .u32 R) ∧ w' = w := by
  have hs : bits .and .u64 (IntKind.u64.wrap (-(n : Int))) 31 = (m : Int) := by
    rw [show IntKind.u64.wrap (-(n : Int)) = (-(n : Int)) % 18446744073709551616 by simp [IntKind.wrap, IntKind.bits, IntKind.signed], show (-(n : Int)) % 18446744073709551616 = ((18446744073709551616 - n : Nat) : Int) by omega]
    have e := u64_and_nat (18446744073709551616 - n) 31 (by omega) (by decide)
    have e2 : (18446744073709551616 - n) &&& 31 = m := by
      rw [show (31 : Nat) = 2 ^ 5 - 1 by rfl, Nat.and_two_pow_sub_one_eq_mod]; omega
    rw [e2] at e
    exact e
  have hm1 : 1 ≤ m := by omega
  have hm2 : m ≤ 31 := by omega
  have hq : (32 - (m : Int)) = (n : Int) := by omega
  have HR := Hid.mk' hr
  clear hm hr
  go_enter Try.func47, Try.ntmps47
  go_wp2
  go_ret
  refine ⟨?_, rfl⟩
  rw [← HR.out]; rfl
theorem rot0_any (N : Nat) (hN : N < 4294967296) (w : World) :
    Calls Try.prog 47 #[.int .u32 N, .int .i64 0] w fun e w' => e = .returned (.int .u32 N) ∧ w' = w := by
  have hs : bits .and .u64 0 31 = 0 := by decide +kernel
  have hr : bits .or .u32 (N : Int) 0 = (N : Int) := by
    have := u32_or_nat N 0 hN (by decide)
    simpa using this
  have hd : (N : Int) / 4294967296 = 0 := by omega
  have HR : Hid (bits .or .u32 (N : Int) ((N : Int) / 4294967296) = (N : Int)) := by show _ = _; rw [hd]; exact hr
  clear hr hd
  go_enter Try.func47, Try.ntmps47
  go_wp2
  go_ret
  refine ⟨?_, rfl⟩
  refine congrArg (fun x => Ending.returned (.int .u32 x)) HR.out
/-- Byte j of four that are turned by i behind. -/
def rot4 (a b c d : B8) : Nat → Nat
  | 0 => num4 a b c d
  | 1 => num4 d a b c
  | 2 => num4 c d a b
  | _ => num4 b c d a
theorem rot_any (a b c d : B8) (i : Nat) (hi : i < 4) (z : Int) (hz : z = -8 * (i : Int)) (w : World) :
    Calls Try.prog 47 #[.int .u32 (num4 a b c d : Nat), .int .i64 z] w fun e w' => e = .returned (.int .u32 (rot4 a b c d i : Nat)) ∧ w' = w := by
  have hN := num4_lt a b c d
  have ha := b8_lt a; have hb := b8_lt b; have hc := b8_lt c; have hd := b8_lt d
  subst hz
  match i, hi with
  | 0, _ => exact rot0_any _ hN w
  | 1, _ =>
    refine rotn_any _ _ 8 24 hN (by decide) (by decide) rfl ?_ w
    rw [rot_or 24 16777216 8 256 (b8 d) (b8 a * 65536 + b8 b * 256 + b8 c) _ (by decide) (by decide) (by unfold num4; omega) (by unfold num4; omega) (by omega) (by omega) (by decide)]
    rw [show b8 d * 16777216 + (b8 a * 65536 + b8 b * 256 + b8 c) = rot4 a b c d 1 by show _ = num4 d a b c; unfold num4; omega]
  | 2, _ =>
    refine rotn_any _ _ 16 16 hN (by decide) (by decide) rfl ?_ w
    rw [rot_or 16 65536 16 65536 (b8 c * 256 + b8 d) (b8 a * 256 + b8 b) _ (by decide) (by decide) (by unfold num4; omega) (by unfold num4; omega) (by omega) (by omega) (by decide)]
    rw [show (b8 c * 256 + b8 d) * 65536 + (b8 a * 256 + b8 b) = rot4 a b c d 2 by show _ = num4 c d a b; unfold num4; omega]
  | 3, _ =>
    refine rotn_any _ _ 24 8 hN (by decide) (by decide) rfl ?_ w
    rw [rot_or 8 256 24 16777216 (b8 b * 65536 + b8 c * 256 + b8 d) (b8 a) _ (by decide) (by decide) (by unfold num4; omega) (by unfold num4; omega) (by omega) (by omega) (by decide)]
    rw [show (b8 b * 65536 + b8 c * 256 + b8 d) * 256 + (b8 a) = rot4 a b c d 3 by show _ = num4 b c d a; unfold num4; omega]
end Go.Proofs.Ytdlalpklopnpjaa
