/- The reference's bit and Add of layer 7. -/
import Derived.Test.YtpdkdeebdhdhgaaGhashBytes
import Derived.Test.YtpdkdeebdhdhgaaBlocks
import Derived.Test.YtpdkdeebdhdhgaaLasts
namespace Go.Proofs.Ytpdkdeebdhdhgaa
open Go.RowKit

/-- A bit as a number. -/
def bo (c : Bool) : Nat := if c then 1 else 0
theorem bo_lt (c : Bool) : bo c < 2 := by cases c <;> decide
theorem bit_val (x : B8) (s : Nat) (h : s < 8) : bits .and .u8 ((b8 x : Int) / 2 ^ s) 1 = (bo (x.getLsbD s) : Int) := by
  rw [bit_at x s h]
  cases x.getLsbD s <;> rfl
set_option maxHeartbeats 1000000 in
theorem rbit_any (a : List B8) (ha : a.length = 16) (i : Nat) (hi : i < 128) (w : World) :
    Calls Try.prog 24 #[.agg (u8s (nts a)).toArray, .int .i64 (i : Int)] w fun e w' => e = .returned (.int .u8 (bo (coef a i) : Nat)) ∧ But (fun _ => False) w w' := by
  obtain ⟨C, hC⟩ : ∃ C, C = (u8s (nts a)).toArray := ⟨_, rfl⟩
  rw [← hC]
  obtain ⟨q, hq⟩ : ∃ q, q = i / 8 := ⟨_, rfl⟩
  obtain ⟨r, hr⟩ : ∃ r, r = i % 8 := ⟨_, rfl⟩
  obtain ⟨s, hs⟩ : ∃ s, s = 7 - r := ⟨_, rfl⟩
  have d1 : Int.tdiv (i : Int) 8 = (q : Int) := by rw [Int.tdiv_eq_ediv_of_nonneg (by omega)]; omega
  have d2 : (i : Int) / 8 = (q : Int) := by omega
  have d3 : Int.tmod (i : Int) 8 = (r : Int) := by rw [Int.tmod_eq_emod_of_nonneg (by omega)]; omega
  have d4 : (i : Int) % 8 = (r : Int) := by omega
  have d5 : (7 : Int) - (r : Int) = (s : Int) := by omega
  have hq16 : q < 16 := by omega
  have hq16' : (q : Int) < 16 := by omega
  have hr8 : r < 8 := by omega
  have hs8 : s < 8 := by omega
  have hb : Blk (w.alloc (.cells C 22)) w.heap.size 22 (u8s (nts a)) := by rw [hC]; exact Blk.new rfl
  have hc : (w.alloc (.cells C 22)).cell? ⟨w.heap.size, q, none⟩ = some (.int .u8 (b8 (at8 a q) : Nat)) := by
    rw [hb.cell]
    have e := nts_at a q (by omega)
    unfold u8s
    rw [List.getElem?_map, e]; rfl
  have hv := bit_val (at8 a q) s hs8
  have hx := b8_lt (at8 a q)
  have HE : Hid ((at8 a q).getLsbD s = coef a i) := by
    show _ = _
    unfold coef
    rw [hq, hs, hr]
  generalize at8 a q = x at *
  have HB := Hid.mk' hb
  clear hb hC hq hr hs
  go_enter Try.func24, Try.ntmps24
  go_wp2
  go_ret
  refine ⟨?_, (But.refl _ w).alloc _⟩
  rw [← HE.out]; rfl
end Go.Proofs.Ytpdkdeebdhdhgaa
