/- SHA-256 by the document, over words of 32 bits; and what the model's operations on them are. -/
import Derived.Test.YthpgjbblbhjndaaDoorRefBytes
import Derived.Laws.BitsAllLaws
namespace Go.Proofs.YthpgjbblbhjndaaDoor
open Go.RowKit

/-- A word as a number. -/
def nt (x : BitVec 32) : Nat := x.toNat
theorem nt_lt (x : BitVec 32) : nt x < 4294967296 := x.isLt
theorem nt_of (n : Nat) (h : n < 4294967296) : nt (BitVec.ofNat 32 n) = n := by unfold nt; simp; omega
theorem nt_inj {x y : BitVec 32} (h : nt x = nt y) : x = y := BitVec.eq_of_toNat_eq h

theorem add_nt (a b : BitVec 32) : IntKind.u32.wrap ((nt a : Int) + (nt b : Int)) = (nt (a + b) : Int) := by
  rw [IntKind.wrap_u32']; unfold nt; rw [BitVec.toNat_add]; omega
theorem xor_nt (a b : BitVec 32) : bits .xor .u32 (nt a : Int) (nt b : Int) = (nt (a ^^^ b) : Int) := by
  rw [u32_xor_nat _ _ (nt_lt a) (nt_lt b)]; unfold nt; rw [BitVec.toNat_xor]
theorem and_nt (a b : BitVec 32) : bits .and .u32 (nt a : Int) (nt b : Int) = (nt (a &&& b) : Int) := by
  rw [u32_and_nat _ _ (nt_lt a) (nt_lt b)]; unfold nt; rw [BitVec.toNat_and]
theorem or_nt (a b : BitVec 32) : bits .or .u32 (nt a : Int) (nt b : Int) = (nt (a ||| b) : Int) := by
  rw [u32_or_nat _ _ (nt_lt a) (nt_lt b)]; unfold nt; rw [BitVec.toNat_or]
theorem shr_nt (a : BitVec 32) (k : Nat) : (nt a : Int) / 2 ^ k = (nt (a >>> k) : Int) := by
  unfold nt; rw [BitVec.toNat_ushiftRight, Nat.shiftRight_eq_div_pow]; simp
theorem shl_nt (a : BitVec 32) (k : Nat) : IntKind.u32.wrap ((nt a : Int) * 2 ^ k) = (nt (a <<< k) : Int) := by
  rw [IntKind.wrap_u32']; unfold nt; rw [BitVec.toNat_shiftLeft, Nat.shiftLeft_eq]
  have e : ((a.toNat : Int) * 2 ^ k) = ((a.toNat * 2 ^ k : Nat) : Int) := by simp
  rw [e]; omega

theorem add_ntm (a b : BitVec 32) : ((nt a : Int) + (nt b : Int)) % 4294967296 = (nt (a + b) : Int) := by rw [← add_nt, IntKind.wrap_u32']
theorem shl_ntm (a : BitVec 32) (k : Nat) : (nt a : Int) * 2 ^ k % 4294967296 = (nt (a <<< k) : Int) := by rw [← shl_nt, IntKind.wrap_u32']
theorem rot_nt (x : BitVec 32) (n : Nat) (h : n ≤ 31) : bits .or .u32 ((nt x : Int) / 2 ^ n) ((nt x : Int) * 2 ^ (32 - n) % 4294967296) = (nt (x.rotateRight n) : Int) := by
  rw [shr_nt, shl_ntm, or_nt]
  have e : n % 32 = n := Nat.mod_eq_of_lt (by omega)
  unfold BitVec.rotateRight BitVec.rotateRightAux
  rw [e]

/-- The words of the rounds. -/
def kws : List (BitVec 32) := [1116352408, 1899447441, 3049323471, 3921009573, 961987163, 1508970993, 2453635748, 2870763221, 3624381080, 310598401, 607225278, 1426881987, 1925078388, 2162078206, 2614888103, 3248222580, 3835390401, 4022224774, 264347078, 604807628, 770255983, 1249150122, 1555081692, 1996064986, 2554220882, 2821834349, 2952996808, 3210313671, 3336571891, 3584528711, 113926993, 338241895, 666307205, 773529912, 1294757372, 1396182291, 1695183700, 1986661051, 2177026350, 2456956037, 2730485921, 2820302411, 3259730800, 3345764771, 3516065817, 3600352804, 4094571909, 275423344, 430227734, 506948616, 659060556, 883997877, 958139571, 1322822218, 1537002063, 1747873779, 1955562222, 2024104815, 2227730452, 2361852424, 2428436474, 2756734187, 3204031479, 3329325298]
/-- The first state. -/
def hws : List (BitVec 32) := [1779033703, 3144134277, 1013904242, 2773480762, 1359893119, 2600822924, 528734635, 1541459225]
def sg0 (x : BitVec 32) : BitVec 32 := x.rotateRight 7 ^^^ x.rotateRight 18 ^^^ x >>> 3
def sg1 (x : BitVec 32) : BitVec 32 := x.rotateRight 17 ^^^ x.rotateRight 19 ^^^ x >>> 10
/-- The word t of a block's schedule, of those ahead of it. -/
def nextw (m : Nat → BitVec 32) (l : List (BitVec 32)) (t : Nat) : BitVec 32 :=
  if t < 16 then m t else l.getD (t - 16) 0 + sg0 (l.getD (t - 15) 0) + l.getD (t - 7) 0 + sg1 (l.getD (t - 2) 0)
/-- The first t words of a block's schedule. -/
def sched (m : Nat → BitVec 32) : Nat → List (BitVec 32)
  | 0 => []
  | t + 1 => sched m t ++ [nextw m (sched m t) t]
theorem sched_len (m : Nat → BitVec 32) (t : Nat) : (sched m t).length = t := by
  induction t with
  | zero => rfl
  | succ t ih => simp [sched, ih]
/-- One round. -/
def rnd (k w : BitVec 32) : List (BitVec 32) → List (BitVec 32)
  | [a, b, c, d, e, f, g, h] =>
    let t1 := h + (e.rotateRight 6 ^^^ e.rotateRight 11 ^^^ e.rotateRight 25) + ((e &&& f) ^^^ (~~~e &&& g)) + k + w
    let t2 := (a.rotateRight 2 ^^^ a.rotateRight 13 ^^^ a.rotateRight 22) + ((a &&& b) ^^^ (a &&& c) ^^^ (b &&& c))
    [t1 + t2, a, b, c, d + t1, e, f, g]
  | l => l
/-- The state behind the first t rounds. -/
def rnds (m : Nat → BitVec 32) (v : List (BitVec 32)) : Nat → List (BitVec 32)
  | 0 => v
  | t + 1 => rnd (kws.getD t 0) ((sched m 64).getD t 0) (rnds m v t)
/-- What a block makes of the state. -/
def comp (m : Nat → BitVec 32) (h : List (BitVec 32)) : List (BitVec 32) := List.zipWith (· + ·) h (rnds m h 64)
/-- The words of the block at byte p of padded bytes. -/
def blkw (z : List Nat) (p : Nat) (t : Nat) : BitVec 32 :=
  BitVec.ofNat 32 (z.getD (p + 4 * t) 0 * 16777216 + z.getD (p + 4 * t + 1) 0 * 65536 + z.getD (p + 4 * t + 2) 0 * 256 + z.getD (p + 4 * t + 3) 0)
/-- The state behind the first k blocks. -/
def hst (z : List Nat) : Nat → List (BitVec 32)
  | 0 => hws
  | k + 1 => comp (blkw z (64 * k)) (hst z k)
/-- A state's bytes. -/
def outb (h : List (BitVec 32)) : List Nat := (List.range 32).map fun i => nt (h.getD (i / 4) 0) / 2 ^ (24 - 8 * (i % 4)) % 256
/-- What is padded of n bytes: how many noughts. -/
def noughts (n : Nat) : Nat := (119 - n % 64) % 64
def be8 (n : Nat) : List Nat := (List.range 8).map fun i => n / 2 ^ (56 - 8 * i) % 256
def padded (xs : List Nat) : List Nat := xs ++ [128] ++ List.replicate (noughts xs.length) 0 ++ be8 (8 * xs.length)
/-- The digest. -/
def digest (xs : List Nat) : List Nat := outb (hst (padded xs) ((padded xs).length / 64))
theorem padded_len (xs : List Nat) : (padded xs).length % 64 = 0 := by
  simp [padded, be8, noughts]; omega
theorem padded_lt (xs : List Nat) (h : ∀ z ∈ xs, z < 256) : ∀ z ∈ padded xs, z < 256 := by
  intro z hz
  simp only [padded, List.mem_append, List.mem_singleton, List.mem_replicate, be8, List.mem_map, List.mem_range] at hz
  rcases hz with ((hz | hz) | hz) | ⟨i, _, hz⟩
  · exact h z hz
  · omega
  · omega
  · omega
theorem rnd_len (k w : BitVec 32) (l : List (BitVec 32)) (h : l.length = 8) : (rnd k w l).length = 8 := by
  match l, h with
  | [_, _, _, _, _, _, _, _], _ => rfl
theorem rnds_len (m : Nat → BitVec 32) (v : List (BitVec 32)) (t : Nat) (h : v.length = 8) : (rnds m v t).length = 8 := by
  induction t with
  | zero => exact h
  | succ t ih => exact rnd_len _ _ _ ih
theorem comp_len (m : Nat → BitVec 32) (h : List (BitVec 32)) (hl : h.length = 8) : (comp m h).length = 8 := by
  simp [comp, hl, rnds_len m h 64 hl]
theorem hst_len (z : List Nat) (k : Nat) : (hst z k).length = 8 := by
  induction k with
  | zero => rfl
  | succ k ih => exact comp_len _ _ ih

/-- Words as values, and a row of them. -/
abbrev u32s (l : List (BitVec 32)) : List Value := l.map fun x => Value.int .u32 (nt x : Int)
def Ar (w : World) (g : Nat) (T : TypeId) (l : List (BitVec 32)) : Prop := w.heap[g]? = some (.cells (u32s l).toArray T (0, 0))
theorem Ar.cell {w : World} {g : Nat} {T : TypeId} {l : List (BitVec 32)} (h : Ar w g T l) (i : Nat) (hi : i < l.length) : w.cell? ⟨g, i, none⟩ = some (.int .u32 (nt (l.getD i 0) : Int)) := by
  rw [cell_of_row w g i _ _ _ h]
  simp [u32s, hi]
theorem Ar.free {w : World} {g : Nat} {T : TypeId} {l : List (BitVec 32)} (h : Ar w g T l) (i : Nat) : w.frozen? ⟨g, i, none⟩ = false := frozen_of_row w g i _ _ h
theorem Ar.set {w : World} {g : Nat} {T : TypeId} {l : List (BitVec 32)} (h : Ar w g T l) (i : Nat) (y : BitVec 32) : Ar (w.setCell ⟨g, i, none⟩ (.int .u32 (nt y : Int))) g T (l.set i y) := by
  unfold Ar at h ⊢
  rw [heap_setCell_same w g i _ _ _ h]
  simp [u32s, List.map_set]
theorem Ar.but {R : Nat → Prop} {w w' : World} {g : Nat} {T : TypeId} {l : List (BitVec 32)} (h : Ar w g T l) (k : But R w w') (hr : ¬ R g) : Ar w' g T l := (k.block g (lt_of_block h) hr).trans h
theorem Ar.lt {w : World} {g : Nat} {T : TypeId} {l : List (BitVec 32)} (h : Ar w g T l) : g < w.heap.size := lt_of_block h
end Go.Proofs.YthpgjbblbhjndaaDoor
