/- Bytes as elements of a field of 256: products, powers, inverses, boxes. -/
import Derived.Test.YtpdkdeebdhdhgaaRows
import Derived.WalkKit
import Derived.WalkSpells
import Derived.WalkLawsBesides
import Derived.Laws.BitsAllLaws
namespace Go.Proofs.Ytpdkdeebdhdhgaa
open Go.RowKit

abbrev B8 := BitVec 8
/-- What holds at each number below 256 holds at each byte. -/
theorem all8 {P : B8 → Prop} (h : ∀ n, n < 256 → P (BitVec.ofNat 8 n)) (x : B8) : P x := by
  have := h x.toNat x.isLt
  simpa using this

/-- x if the bit is set. -/
def cx {n : Nat} (c : Bool) (x : BitVec n) : BitVec n := if c then x else 0
theorem cx_xor {n : Nat} (c d : Bool) (x : BitVec n) : cx (c ^^ d) x = cx c x ^^^ cx d x := by cases c <;> cases d <;> simp [cx]
theorem cx_add {n : Nat} (c : Bool) (x y : BitVec n) : cx c (x ^^^ y) = cx c x ^^^ cx c y := by cases c <;> simp [cx]
theorem x4 {n : Nat} (a b c d : BitVec n) : (a ^^^ b) ^^^ (c ^^^ d) = (a ^^^ c) ^^^ (b ^^^ d) := by
  rw [BitVec.xor_assoc, BitVec.xor_assoc, ← BitVec.xor_assoc b c d, BitVec.xor_comm b c, BitVec.xor_assoc c b d]

/-- A map that goes over sums. -/
def Add {n m : Nat} (f : BitVec n → BitVec m) : Prop := ∀ x y, f (x ^^^ y) = f x ^^^ f y
theorem Add.zero {n m : Nat} {f : BitVec n → BitVec m} (h : Add f) : f 0 = 0 := by
  have e := h 0 0
  rw [BitVec.xor_self, BitVec.xor_self] at e
  exact e
theorem Add.cx {n m : Nat} {f : BitVec n → BitVec m} (h : Add f) (c : Bool) (x : BitVec n) : f (cx c x) = Go.Proofs.Ytpdkdeebdhdhgaa.cx c (f x) := by
  cases c
  · exact h.zero
  · rfl
theorem Add.comp {n m k : Nat} {f : BitVec n → BitVec m} {g : BitVec m → BitVec k} (hg : Add g) (hf : Add f) : Add (fun x => g (f x)) := by
  intro x y
  show g (f (x ^^^ y)) = _
  rw [hf, hg]
/-- A byte by its bits. -/
theorem by_bits : ∀ x : B8, x = cx (x.getLsbD 0) 1#8 ^^^ (cx (x.getLsbD 1) 2#8 ^^^ (cx (x.getLsbD 2) 4#8 ^^^ (cx (x.getLsbD 3) 8#8 ^^^ (cx (x.getLsbD 4) 16#8 ^^^ (cx (x.getLsbD 5) 32#8 ^^^ (cx (x.getLsbD 6) 64#8 ^^^ cx (x.getLsbD 7) 128#8)))))) :=
  all8 (by decide +kernel)
/-- Two such maps that agree at the bits agree. -/
theorem Add.ext {m : Nat} {f g : B8 → BitVec m} (hf : Add f) (hg : Add g) (h : ∀ i, i < 8 → f (BitVec.ofNat 8 (2 ^ i)) = g (BitVec.ofNat 8 (2 ^ i))) (x : B8) : f x = g x := by
  have h0 : f 1#8 = g 1#8 := h 0 (by decide)
  have h1 : f 2#8 = g 2#8 := h 1 (by decide)
  have h2 : f 4#8 = g 4#8 := h 2 (by decide)
  have h3 : f 8#8 = g 8#8 := h 3 (by decide)
  have h4 : f 16#8 = g 16#8 := h 4 (by decide)
  have h5 : f 32#8 = g 32#8 := h 5 (by decide)
  have h6 : f 64#8 = g 64#8 := h 6 (by decide)
  have h7 : f 128#8 = g 128#8 := h 7 (by decide)
  rw [by_bits x, hf, hf, hf, hf, hf, hf, hf, hg, hg, hg, hg, hg, hg, hg]
  simp only [hf.cx, hg.cx, h0, h1, h2, h3, h4, h5, h6, h7]

/-- A byte times x. -/
def dbl (a : B8) : B8 := (a <<< 1) ^^^ cx (a.getLsbD 7) 27#8
def dbls : Nat → B8 → B8
  | 0, a => a
  | n + 1, a => dbl (dbls n a)
/-- The product's first n sums. -/
def acc (a b : B8) : Nat → B8
  | 0 => 0
  | n + 1 => acc a b n ^^^ cx (b.getLsbD n) (dbls n a)
/-- The product. -/
def tm (a b : B8) : B8 := acc a b 8

theorem dbl_add : Add dbl := by
  intro x y
  unfold dbl
  rw [BitVec.shiftLeft_xor_distrib, BitVec.getLsbD_xor, cx_xor, x4]
theorem dbls_add (n : Nat) : Add (dbls n) := by
  induction n with
  | zero => intro x y; rfl
  | succ n ih => exact Add.comp (g := dbl) (f := dbls n) dbl_add ih
theorem acc_add_right (a : B8) (n : Nat) : Add (fun b => acc a b n) := by
  induction n with
  | zero => intro x y; simp [acc]
  | succ n ih =>
    intro x y
    have e := ih x y
    simp only [acc] at e ⊢
    rw [e, BitVec.getLsbD_xor, cx_xor, x4]
theorem acc_add_left (b : B8) (n : Nat) : Add (fun a => acc a b n) := by
  induction n with
  | zero => intro x y; simp [acc]
  | succ n ih =>
    intro x y
    have e := ih x y
    simp only [acc] at e ⊢
    rw [e, dbls_add n x y, cx_add, x4]
theorem tm_right (a : B8) : Add (fun b => tm a b) := acc_add_right a 8
theorem tm_left (b : B8) : Add (fun a => tm a b) := acc_add_left b 8
theorem tm_add (a b c : B8) : tm a (b ^^^ c) = tm a b ^^^ tm a c := tm_right a b c

theorem comm_bits : ∀ i, i < 8 → ∀ j, j < 8 → tm (BitVec.ofNat 8 (2 ^ i)) (BitVec.ofNat 8 (2 ^ j)) = tm (BitVec.ofNat 8 (2 ^ j)) (BitVec.ofNat 8 (2 ^ i)) := by decide +kernel
theorem tm_comm (a b : B8) : tm a b = tm b a := by
  refine Add.ext (f := fun b => tm a b) (g := fun b => tm b a) (tm_right a) (tm_left a) (fun j hj => ?_) b
  exact Add.ext (f := fun a => tm a _) (g := fun a => tm _ a) (tm_left _) (tm_right _) (fun i hi => comm_bits i hi j hj) a
theorem assoc_bits : ∀ i, i < 8 → ∀ j, j < 8 → ∀ k, k < 8 → tm (BitVec.ofNat 8 (2 ^ i)) (tm (BitVec.ofNat 8 (2 ^ j)) (BitVec.ofNat 8 (2 ^ k))) = tm (tm (BitVec.ofNat 8 (2 ^ i)) (BitVec.ofNat 8 (2 ^ j))) (BitVec.ofNat 8 (2 ^ k)) := by decide +kernel
theorem tm_assoc (a b c : B8) : tm a (tm b c) = tm (tm a b) c := by
  refine Add.ext (f := fun c => tm a (tm b c)) (g := fun c => tm (tm a b) c) (Add.comp (tm_right a) (tm_right b)) (tm_right _) (fun k hk => ?_) c
  refine Add.ext (f := fun b => tm a (tm b _)) (g := fun b => tm (tm a b) _) (Add.comp (g := fun y => tm a y) (f := fun b => tm b _) (tm_right a) (tm_left _)) (Add.comp (g := fun y => tm y _) (f := fun b => tm a b) (tm_left _) (tm_right a)) (fun j hj => ?_) b
  exact Add.ext (f := fun a => tm a (tm _ _)) (g := fun a => tm (tm a _) _) (tm_left _) (Add.comp (g := fun y => tm y _) (f := fun a => tm a _) (tm_left _) (tm_left _)) (fun i hi => assoc_bits i hi j hj k hk) a
theorem tm_one (a : B8) : tm a 1 = a := by
  refine Add.ext (f := fun a => tm a 1) (g := fun a => a) (tm_left _) (fun _ _ => rfl) (by decide +kernel) a
theorem one_tm (a : B8) : tm 1 a = a := by rw [tm_comm, tm_one]
theorem tm_zero (a : B8) : tm a 0 = 0 := (tm_right a).zero
theorem zero_tm (a : B8) : tm 0 a = 0 := (tm_left a).zero

/-- 1 times a, n times. -/
def pw (a : B8) : Nat → B8
  | 0 => 1
  | n + 1 => tm (pw a n) a
theorem pw_add (a : B8) (n m : Nat) : tm (pw a n) (pw a m) = pw a (n + m) := by
  induction m with
  | zero => exact tm_one _
  | succ m ih =>
    show tm (pw a n) (tm (pw a m) a) = tm (pw a (n + m)) a
    rw [tm_assoc, ih]
theorem pw_sq (a : B8) (n : Nat) : pw (tm a a) n = pw a (2 * n) := by
  induction n with
  | zero => rfl
  | succ n ih =>
    show tm (pw (tm a a) n) (tm a a) = tm (tm (pw a (2 * n)) a) a
    rw [ih, tm_assoc]
/-- The power by the number's bits: q times the nth power of a, at most k bits. -/
def pwq : Nat → B8 → B8 → Nat → B8
  | 0, q, _, _ => q
  | k + 1, q, a, n => if n = 0 then q else pwq k (if n % 2 = 1 then tm q a else q) (tm a a) (n / 2)
theorem pwq_eq (k : Nat) (q a : B8) (n : Nat) (h : n < 2 ^ k) : pwq k q a n = tm q (pw a n) := by
  induction k generalizing q a n with
  | zero =>
    have : n = 0 := by simp at h; omega
    subst this
    exact (tm_one q).symm
  | succ k ih =>
    unfold pwq
    by_cases h0 : n = 0
    · subst h0; rw [if_pos rfl]; exact (tm_one q).symm
    · rw [if_neg h0, ih _ _ _ (by rw [Nat.pow_succ] at h; omega), pw_sq]
      by_cases h1 : n % 2 = 1
      · rw [if_pos h1, ← tm_assoc]
        have e : n = 1 + 2 * (n / 2) := by omega
        have e1 : a = pw a 1 := (one_tm a).symm
        conv => lhs; arg 2; arg 1; rw [e1]
        rw [pw_add, ← e]
      · rw [if_neg h1]
        have e : n = 2 * (n / 2) := by omega
        rw [← e]
/-- The inverse. -/
def inv (a : B8) : B8 := pw a 254
theorem inv_eq (a : B8) : inv a = pwq 8 1 a 254 := by rw [pwq_eq 8 1 a 254 (by decide), one_tm]; rfl
theorem pw255 (a : B8) (h : a ≠ 0) : pw a 255 = 1 := by
  have e : pw a 255 = pwq 8 1 a 255 := by rw [pwq_eq 8 1 a 255 (by decide), one_tm]
  rw [e]
  revert h
  exact all8 (P := fun a => a ≠ 0 → pwq 8 1 a 255 = 1) (by decide +kernel) a
theorem tm_inv (a : B8) (h : a ≠ 0) : tm a (inv a) = 1 := by
  rw [tm_comm]; exact pw255 a h
theorem inv_zero : inv 0 = 0 := by rw [inv_eq]; decide +kernel
theorem inv_of {a b : B8} (h : tm a b = 1) : b = inv a := by
  have h0 : a ≠ 0 := by intro e; rw [e, zero_tm] at h; exact absurd h (by decide)
  have e : tm (inv a) (tm a b) = tm (inv a) 1 := congrArg _ h
  rw [tm_assoc, tm_comm (inv a) a, tm_inv a h0, one_tm, tm_one] at e
  exact e
theorem inv_ne {a : B8} (h : a ≠ 0) : inv a ≠ 0 := by
  intro e
  have := tm_inv a h
  rw [e, tm_zero] at this
  exact absurd this (by decide)
theorem inv_inv (a : B8) : inv (inv a) = a := by
  by_cases h : a = 0
  · rw [h, inv_zero, inv_zero]
  · exact (inv_of (by rw [tm_comm]; exact tm_inv a h)).symm
theorem pw_mod (a : B8) (h : a ≠ 0) (n : Nat) : pw a n = pw a (n % 255) := by
  have hq : ∀ k, pw a (255 * k) = 1 := by
    intro k
    induction k with
    | zero => rfl
    | succ k ih => rw [Nat.mul_succ, ← pw_add, ih, pw255 a h, tm_one]
  have e : n = 255 * (n / 255) + n % 255 := by omega
  conv => lhs; rw [e]
  rw [← pw_add, hq, one_tm]
theorem pw_zero (n : Nat) (h : 0 < n) : pw 0 n = 0 := by
  cases n with
  | zero => omega
  | succ n => exact tm_zero _

/-- The box, of the inverse: the sum of turns, and 63 (base 16). -/
def turns (b : B8) : Nat → B8
  | 0 => b
  | t + 1 => turns b t ^^^ b.rotateLeft (t + 1)
def aff (b : B8) : B8 := turns b 4 ^^^ 99#8
def affBack (b : B8) : B8 := b.rotateLeft 1 ^^^ b.rotateLeft 3 ^^^ b.rotateLeft 6 ^^^ 5#8
theorem aff_back : ∀ b : B8, affBack (aff b) = b := all8 (by decide +kernel)
theorem back_aff : ∀ b : B8, aff (affBack b) = b := all8 (by decide +kernel)
def bx (a : B8) : B8 := aff (inv a)
def bk (a : B8) : B8 := inv (affBack a)
theorem bk_bx (a : B8) : bk (bx a) = a := by unfold bk bx; rw [aff_back, inv_inv]
theorem bx_bk (a : B8) : bx (bk a) = a := by unfold bk bx; rw [inv_inv, back_aff]
theorem bx_inj {a b : B8} (h : bx a = bx b) : a = b := by rw [← bk_bx a, h, bk_bx]
theorem bx_ne (a : B8) : bx a ≠ a ∧ bx a ≠ ~~~a := by
  unfold bx; rw [inv_eq]
  exact all8 (P := fun a => aff (pwq 8 1 a 254) ≠ a ∧ aff (pwq 8 1 a 254) ≠ ~~~a) (by decide +kernel) a
/-- The box's bit i, by the document's sum; and the box by its first bits. -/
def bitAt (b : B8) (i : Nat) : Nat := b.toNat / 2 ^ i % 2
def sumAt (b : B8) (i : Nat) : Nat := bitAt 99#8 i + bitAt b i + bitAt b ((i + 4) % 8) + bitAt b ((i + 5) % 8) + bitAt b ((i + 6) % 8) + bitAt b ((i + 7) % 8)
def byBits (b : B8) : Nat → Nat
  | 0 => 0
  | i + 1 => byBits b i + sumAt b i % 2 * 2 ^ i
theorem byBits_aff : ∀ b : B8, byBits b 8 = (aff b).toNat := all8 (by decide +kernel)
theorem byBits_lt (b : B8) (i : Nat) : byBits b i < 2 ^ i := by
  induction i with
  | zero => exact Nat.one_pos
  | succ i ih =>
    show byBits b i + sumAt b i % 2 * 2 ^ i < 2 ^ (i + 1)
    rw [Nat.pow_succ]
    have h : sumAt b i % 2 = 0 ∨ sumAt b i % 2 = 1 := by omega
    rcases h with h | h <;> rw [h] <;> omega

/-- The number of each byte among the powers of 3. -/
def logs : List Nat := [0, 0, 25, 1, 50, 2, 26, 198, 75, 199, 27, 104, 51, 238, 223, 3, 100, 4, 224, 14, 52, 141, 129, 239, 76, 113, 8, 200, 248, 105, 28, 193, 125, 194, 29, 181, 249, 185, 39, 106, 77, 228, 166, 114, 154, 201, 9, 120, 101, 47, 138, 5, 33, 15, 225, 36, 18, 240, 130, 69, 53, 147, 218, 142, 150, 143, 219, 189, 54, 208, 206, 148, 19, 92, 210, 241, 64, 70, 131, 56, 102, 221, 253, 48, 191, 6, 139, 98, 179, 37, 226, 152, 34, 136, 145, 16, 126, 110, 72, 195, 163, 182, 30, 66, 58, 107, 40, 84, 250, 133, 61, 186, 43, 121, 10, 21, 155, 159, 94, 202, 78, 212, 172, 229, 243, 115, 167, 87, 175, 88, 168, 80, 244, 234, 214, 116, 79, 174, 233, 213, 231, 230, 173, 232, 44, 215, 117, 122, 235, 22, 11, 245, 89, 203, 95, 176, 156, 169, 81, 160, 127, 12, 246, 111, 23, 196, 73, 236, 216, 67, 31, 45, 164, 118, 123, 183, 204, 187, 62, 90, 251, 96, 177, 134, 59, 82, 161, 108, 170, 85, 41, 157, 151, 178, 135, 144, 97, 190, 220, 252, 188, 149, 207, 205, 55, 63, 91, 209, 83, 57, 132, 60, 65, 162, 109, 71, 20, 42, 158, 93, 86, 242, 211, 171, 68, 17, 146, 217, 35, 32, 46, 137, 180, 124, 184, 38, 119, 153, 227, 165, 103, 74, 237, 222, 197, 49, 254, 24, 13, 99, 140, 128, 192, 247, 112, 7]
theorem logs_lt : ∀ n, n < 256 → logs.getD n 0 < 255 := by decide +kernel
theorem logs_eq : ∀ a : B8, a ≠ 0 → pwq 8 1 3#8 (logs.getD a.toNat 0) = a := all8 (P := fun a => a ≠ 0 → pwq 8 1 3#8 (logs.getD a.toNat 0) = a) (by decide +kernel)
theorem gen_all (a : B8) (h : a ≠ 0) : ∃ i, i < 255 ∧ pw 3#8 i = a := by
  refine ⟨logs.getD a.toNat 0, logs_lt _ a.isLt, ?_⟩
  have e := logs_eq a h
  have hl := logs_lt _ a.isLt
  rw [pwq_eq 8 1 _ _ (Nat.lt_trans hl (by decide)), one_tm] at e
  exact e
theorem gen_inv (i : Nat) (h : i < 255) : pw 3#8 ((255 - i) % 255) = inv (pw 3#8 i) := by
  apply inv_of
  rw [pw_add]
  by_cases h0 : i = 0
  · subst h0; rfl
  · rw [Nat.mod_eq_of_lt (by omega), show i + (255 - i) = 255 by omega]
    exact pw255 _ (by decide)
/-- The column of the box s, as a number. -/
def col (s : B8) : Nat := (tm 2#8 s).toNat * 16777216 + s.toNat * 65536 + s.toNat * 256 + (tm 3#8 s).toNat
theorem col_lt (s : B8) : col s < 4294967296 := by
  have h1 := (tm 2#8 s).isLt
  have h2 := s.isLt
  have h3 := (tm 3#8 s).isLt
  unfold col; omega

/-- The product of polynomials, its first n sums. -/
def wide (a b : B8) : Nat → BitVec 16
  | 0 => 0
  | n + 1 => wide a b n ^^^ cx (b.getLsbD n) (a.setWidth 16 <<< n)
/-- What is too much taken away, from x^15 on, n times. -/
def cut (p : BitVec 16) : Nat → BitVec 16
  | 0 => p
  | n + 1 => cut p n ^^^ cx ((cut p n).getLsbD (15 - n)) (283#16 <<< (7 - n))
theorem wide_right (a : B8) (n : Nat) : Add (fun b => wide a b n) := by
  induction n with
  | zero => intro x y; simp [wide]
  | succ n ih =>
    intro x y
    have e := ih x y
    simp only [wide] at e ⊢
    rw [e, BitVec.getLsbD_xor, cx_xor, x4]
theorem wide_left (b : B8) (n : Nat) : Add (fun a => wide a b n) := by
  induction n with
  | zero => intro x y; simp [wide]
  | succ n ih =>
    intro x y
    have e := ih x y
    simp only [wide] at e ⊢
    rw [e, BitVec.setWidth_xor, BitVec.shiftLeft_xor_distrib, cx_add, x4]
theorem cut_add (n : Nat) : Add (fun p => cut p n) := by
  induction n with
  | zero => intro x y; rfl
  | succ n ih =>
    intro x y
    have e := ih x y
    simp only [cut] at e ⊢
    rw [e, BitVec.getLsbD_xor, cx_xor, x4]
def tmr (a b : B8) : B8 := (cut (wide a b 8) 8).setWidth 8
theorem low_add : Add (fun p : BitVec 16 => p.setWidth 8) := by
  intro x y
  exact BitVec.setWidth_xor
theorem tmr_bits : ∀ i, i < 8 → ∀ j, j < 8 → tmr (BitVec.ofNat 8 (2 ^ i)) (BitVec.ofNat 8 (2 ^ j)) = tm (BitVec.ofNat 8 (2 ^ i)) (BitVec.ofNat 8 (2 ^ j)) := by decide +kernel
theorem tmr_eq (a b : B8) : tmr a b = tm a b := by
  refine Add.ext (f := fun b => tmr a b) (g := fun b => tm a b) (Add.comp (g := fun p : BitVec 16 => p.setWidth 8) (f := fun b => cut (wide a b 8) 8) low_add (Add.comp (g := fun p => cut p 8) (f := fun b => wide a b 8) (cut_add 8) (wide_right a 8))) (tm_right a) (fun j hj => ?_) b
  exact Add.ext (f := fun a => tmr a _) (g := fun a => tm a _) (Add.comp (g := fun p : BitVec 16 => p.setWidth 8) (f := fun a => cut (wide a _ 8) 8) low_add (Add.comp (g := fun p => cut p 8) (f := fun a => wide a _ 8) (cut_add 8) (wide_left _ 8))) (tm_left _) (fun i hi => tmr_bits i hi j hj) a
end Go.Proofs.Ytpdkdeebdhdhgaa
