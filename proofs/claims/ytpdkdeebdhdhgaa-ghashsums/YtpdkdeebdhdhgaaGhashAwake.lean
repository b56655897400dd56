/- What the laws of layer 7 ask besides: awake; and their arguments. -/
import Derived.Test.YtpdkdeebdhdhgaaGhashProg
import Derived.Test.YtpdkdeebdhdhgaaGuards
import Derived.Test.YtpdkdeebdhdhgaaArrEq
import Derived.Test.YtpdkdeebdhdhgaaArrays
import Derived.ProofKit
import Derived.OpenShut
import Derived.ChangeOld
import Derived.Below
import Derived.Deep.Cut
namespace Go.Proofs.Ytpdkdeebdhdhgaa
open Go.RowKit

theorem Bs.front {w : World} {ao : Option Addr} {l cap n : Nat} {zs : List Nat} (h : Bs w (.slice ao l cap) zs) (hn : n ≤ zs.length) (hao : ao = none → cap = 0) : Bs w (.slice ao n cap) (zs.take n) := by
  obtain ⟨h1, h2, h3⟩ := h
  refine ⟨fun z hz => h1 z (List.mem_of_mem_take hz), by rw [List.length_take]; omega, ?_⟩
  by_cases h0 : n = 0
  · subst h0
    refine .inl ⟨rfl, ?_⟩
    cases ao with
    | none => rw [hao rfl]; exact .inl rfl
    | some a => exact .inr ⟨a, cap, rfl⟩
  · rcases h3 with ⟨rfl, _⟩ | ⟨_, b, off, cap', e, hcap, hb, hc⟩
    · simp at hn; omega
    · simp only [Value.slice.injEq] at e
      obtain ⟨rfl, _, rfl⟩ := e
      have hl : (zs.take n).length = n := by rw [List.length_take]; omega
      refine .inr ⟨by omega, b, off, cap, by rw [hl], by omega, hb, fun i hi => ?_⟩
      rw [hl] at hi
      rw [hc i (by omega)]
      simp [List.getD, hi]
def seven : List B8 := [5#8, 0#8, 0#8, 0#8, 0#8, 0#8, 0#8, 0#8, 0#8, 0#8, 0#8, 0#8, 0#8, 0#8, 0#8, 7#8]
def nine : List B8 := [9#8, 0#8, 0#8, 0#8, 0#8, 0#8, 0#8, 8#8, 0#8, 0#8, 0#8, 0#8, 0#8, 0#8, 0#8, 0#8]
theorem gone_lit : (u8s (nts gone)).toArray = #[.int .u8 128, .int .u8 0, .int .u8 0, .int .u8 0, .int .u8 0, .int .u8 0, .int .u8 0, .int .u8 0, .int .u8 0, .int .u8 0, .int .u8 0, .int .u8 0, .int .u8 0, .int .u8 0, .int .u8 0, .int .u8 0] := by kernel_rfl
theorem seven_lit : (u8s (nts seven)).toArray = #[.int .u8 5, .int .u8 0, .int .u8 0, .int .u8 0, .int .u8 0, .int .u8 0, .int .u8 0, .int .u8 0, .int .u8 0, .int .u8 0, .int .u8 0, .int .u8 0, .int .u8 0, .int .u8 0, .int .u8 0, .int .u8 7] := by kernel_rfl
theorem nine_lit : (u8s (nts nine)).toArray = #[.int .u8 9, .int .u8 0, .int .u8 0, .int .u8 0, .int .u8 0, .int .u8 0, .int .u8 0, .int .u8 8, .int .u8 0, .int .u8 0, .int .u8 0, .int .u8 0, .int .u8 0, .int .u8 0, .int .u8 0, .int .u8 0] := by kernel_rfl
theorem one_bytes (w : World) : Bs (w.alloc (.cells #[.int .u8 9] 5)) (.slice (some ⟨w.heap.size, 0, none⟩) 1 1) [9] := by
  refine ⟨by decide, by decide, .inr ⟨by decide, w.heap.size, 0, 1, rfl, by decide, by simp, fun i hi => ?_⟩⟩
  obtain rfl : i = 0 := by simpa using hi
  rw [cell_of_row _ _ _ _ _ _ (heap_alloc_new _ _)]; rfl
set_option maxRecDepth 100000 in
set_option maxHeartbeats 2000000 in
theorem gawake_any (w : World) :
    Calls Try.prog 11 #[] w fun e w' => e = .returned (.bool true) ∧ But (fun _ => False) w w' := by
  have HT1 := Hid.mk' (fun w => ptimes_any (w := w) (a := gone) (b := seven) gone_len rfl)
  rw [one_gtimes (a := seven) rfl] at HT1
  have HN1 := Hid.mk' (fun w => pnew_any (w := w) (h := gone) gone_len)
  have HE7 := Hid.mk' (fun w => equal16 seven seven rfl rfl w)
  have HE9 := Hid.mk' (fun w => equal16 nine nine rfl rfl w)
  rw [decide_eq_true (Eq.refl seven)] at HE7
  rw [decide_eq_true (Eq.refl nine)] at HE9
  rw [seven_lit] at HT1 HE7
  rw [gone_lit] at HT1 HN1
  rw [nine_lit] at HE9
  go_enter Try.func11, Try.ntmps11
  go_wp2_with fail
  refine Calls.mono (HT1.out _) ?_
  rintro e w1 ⟨rfl, hb1⟩
  have HB1 := Hid.mk' hb1
  have he7 := HE7.out w1
  clear hb1
  go_wp2_with fail
  refine Calls.mono (HN1.out _) ?_
  rintro e w2 ⟨gk, rfl, hky, -, hb2⟩
  have HB2 := Hid.mk' (HB1.out.trans hb2)
  have HS := Hid.mk' (psum_any (hky.but ((But.refl (fun _ => False) w2).alloc (.cells #[.int .u8 9] 5)) (fun h => h)) (one_bytes w2) (Bs.nil _) (by decide) (by decide))
  rw [awake_sum, show ([9#8, 0#8, 0#8, 0#8, 0#8, 0#8, 0#8, 8#8, 0#8, 0#8, 0#8, 0#8, 0#8, 0#8, 0#8, 0#8] : List B8) = nine from rfl, nine_lit] at HS
  clear hb2 hky he7 HB1
  go_wp2_with fail
  refine Calls.mono HS.out ?_
  rintro e w3 ⟨rfl, hb3⟩
  have HB3 := Hid.mk' ((HB2.out.trans ((But.refl _ w2).alloc _)).trans hb3)
  have he9 := HE9.out w3
  clear hb3
  go_wp2
  go_ret
  exact ⟨rfl, HB3.out⟩
end Go.Proofs.Ytpdkdeebdhdhgaa
