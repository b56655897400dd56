/- plan: levels, paths, what a Commit writes, as numbers and lists; no code in it. -/
import Derived.Test.YtidblaepklgkcabIntKit
import Derived.Test.YtidblaepklgkcabNumsMore
import Derived.Test.YtidblaepklgkcabMapOf
namespace Go.Proofs.Ytidblaepklgkcab
open Go.RowKit

structure Pn where
  pages : Int
  budget : Int
  counters : Int
  levels : List Int
  nodes : Int
  head : Int
  heads : Int
  journal : Int
  spill : Int
  total : Int
def pcells (p : Pn) (v : Value) : List Value := [.int .i64 p.pages, .int .i64 p.budget, .int .i64 p.counters, v, .int .i64 p.nodes, .int .i64 p.head, .int .i64 p.heads, .int .i64 p.journal, .int .i64 p.spill, .int .i64 p.total]
abbrev pval (p : Pn) (v : Value) : Value := .agg (pcells p v).toArray
/-- How many parts of a size things begin. -/
def bg (n s : Nat) : Nat := (n + s - 1) / s
def lvN : Nat → Nat → List Nat
  | 0, m => [m]
  | k + 1, m => if m ≤ 1 then [m] else m :: lvN k (bg m 8)
def lvs (c : Nat) : List Nat := lvN 3 (bg c 8)
def toI (l : List Nat) : List Int := l.map (fun j => ((j : Nat) : Int))
theorem toI_len (l : List Nat) : (toI l).length = l.length := List.length_map ..
theorem lvN_one {k m : Nat} (h : m ≤ 1) : lvN k m = [m] := by
  cases k with
  | zero => rfl
  | succ k => unfold lvN; rw [if_pos h]
theorem lvN_more {k m : Nat} (h : ¬ m ≤ 1) : lvN (k + 1) m = m :: lvN k (bg m 8) := by
  rw [lvN, if_neg h]
theorem bg8 {m k : Nat} (h : m ≤ 8 ^ (k + 1)) : bg m 8 ≤ 8 ^ k := by
  unfold bg
  have : 8 ^ (k + 1) = 8 * 8 ^ k := by rw [Nat.pow_succ, Nat.mul_comm]
  omega
theorem bg_pos {m : Nat} (h : 1 ≤ m) : 1 ≤ bg m 8 := by unfold bg; omega
/-- The plan of so many pages and a budget. -/
def plan (n b : Nat) : Pn :=
  let c := bg n 16
  let nd := (lvs c).sum
  let hd := n + c + nd
  let hs := bg (12 + 4 * b) 256
  ⟨n, b, c, toI (lvs c), nd, hd, hs, (hd + hs : Nat), (hd + hs + b : Nat), (hd + hs + b + b : Nat)⟩
/-- Levels are of one of three shapes. -/
theorem lvs_shape {c : Nat} (h1 : 1 ≤ c) (h2 : c ≤ 256) : (c ≤ 8 ∧ lvs c = [1]) ∨ (8 < c ∧ c ≤ 64 ∧ lvs c = [bg c 8, 1]) ∨ (64 < c ∧ lvs c = [bg c 8, bg (bg c 8) 8, 1]) := by
  unfold lvs
  by_cases a : bg c 8 ≤ 1
  · left
    refine ⟨by unfold bg at a; omega, ?_⟩
    rw [lvN_one a, show bg c 8 = 1 by have := bg_pos h1; omega]
  · right
    rw [lvN_more a]
    by_cases b : bg (bg c 8) 8 ≤ 1
    · left
      refine ⟨by unfold bg at a; omega, by unfold bg at b; omega, ?_⟩
      rw [lvN_one b, show bg (bg c 8) 8 = 1 by have := bg_pos (bg_pos h1); omega]
    · right
      rw [lvN_more b]
      have d : bg (bg (bg c 8) 8) 8 = 1 := by unfold bg; omega
      refine ⟨by unfold bg at b; omega, ?_⟩
      rw [lvN_one (by omega), d]
end Go.Proofs.Ytidblaepklgkcab
