/- The program's RotateLeft8, boxed, column. -/
import Derived.Test.YtdlalpklopnpjaaFieldTimes
namespace Go.Proofs.Ytdlalpklopnpjaa
open Go.RowKit

theorem rot8 : ∀ k, k < 5 → 1 ≤ k → ∀ n, n < 256 → bits .or .u8 ((b8 (BitVec.ofNat 8 n) : Int) * 2 ^ k % 256) ((b8 (BitVec.ofNat 8 n) : Int) / 2 ^ (8 - k)) = (b8 ((BitVec.ofNat 8 n).rotateLeft k) : Int) := by decide +kernel
theorem and7 : ∀ k : Nat, k < 5 → bits .and .u64 (k : Int) 7 = (k : Int) := by decide +kernel
set_option maxHeartbeats 1000000 in
theorem rotl8_any (x : B8) (k : Nat) (h1 : 1 ≤ k) (h2 : k < 5) (w : World) :
    Calls Try.prog 61 #[.int .u8 (b8 x), .int .i64 k] w fun e w' => e = .returned (.int .u8 (b8 (x.rotateLeft k))) ∧ w' = w := by
  have hx := b8_lt x
  have ha := and7 k h2
  have hr := Hid.mk' (all8 (P := fun x => bits .or .u8 ((b8 x : Int) * 2 ^ k % 256) ((b8 x : Int) / 2 ^ (8 - k)) = (b8 (x.rotateLeft k) : Int)) (rot8 k h2 h1) x)
  obtain ⟨m, hm⟩ : ∃ m, m = 8 - k := ⟨_, rfl⟩
  have hm1 : m ≤ 7 := by omega
  have hq : (8 - (k : Int)) = (m : Int) := by omega
  rw [← hm] at hr
  clear hm
  go_enter Try.func61, Try.ntmps61
  go_wp2
  go_ret
  refine ⟨?_, rfl⟩
  rw [← hr.out]; rfl
theorem aff_xor (b : B8) : bits .xor .u8 (b8 (turns b 4) : Int) 99 = (b8 (aff b) : Int) := xor_b8 (turns b 4) 99#8
set_option maxHeartbeats 1000000 in
theorem boxed_any (b : B8) (w : World) :
    Calls Try.prog 51 #[.int .u8 (b8 b)] w fun e w' => e = .returned (.int .u8 (b8 (aff b))) ∧ w' = w := by
  have H : Hid (∀ k : Nat, 1 ≤ k → k < 5 → Calls Try.prog 61 #[.int .u8 (b8 b), .int .i64 k] w fun e w' => e = .returned (.int .u8 (b8 (b.rotateLeft k))) ∧ w' = w) := fun k h1 h2 => rotl8_any b k h1 h2 w
  have ha := aff_xor b
  go_enter Try.func51, Try.ntmps51
  go_wp2
  go_loopw [3, 4] (fun s t wr => ∃ k : Nat, k ≤ 4 ∧ t = .int .i64 (k + 1 : Nat) ∧ s = .int .u8 (b8 (turns b k)) ∧ wr = w) (fun _ t _ => 6 - (intOf t).toNat)
  case atStart => exact ⟨0, by decide, rfl, rfl, rfl⟩
  case round =>
    obtain ⟨k, hk, rfl, rfl, rfl⟩ := hrel
    by_cases hlt : k < 4
    · have HT := Hid.mk' (xor_b8 (turns b k) (b.rotateLeft (k + 1)))
      have hs := b8_lt (turns b k)
      obtain ⟨q, hq⟩ : ∃ q, q = k + 1 := ⟨_, rfl⟩
      rw [← hq] at HT ⊢
      have hle : (q : Int) ≤ 4 := by omega
      have HQ := Hid.mk' hq
      clear hq
      go_wp2_with fail
      refine Calls.mono (H.out q (by have := HQ.out; omega) (by omega)) ?_
      rintro e w1 ⟨rfl, hw⟩
      have hw' := hw.symm
      subst hw'
      have ht := HT.out
      go_wp2
      refine ⟨⟨k + 1, by omega, ?_, ?_, trivial⟩, ?_⟩
      · have := HQ.out; go_num
      · rw [HQ.out]; rfl
      · have := HQ.out; simp [intOf]; omega
    · have hk4 : k = 4 := by omega
      subst hk4
      go_wp2
      go_ret
      exact ⟨rfl, rfl⟩
theorem col_or (s : B8) : bits .or .u32 (bits .or .u32 (bits .or .u32 ((b8 (tm 2#8 s) : Int) * 16777216) ((b8 s : Int) * 65536)) ((b8 s : Int) * 256)) (b8 (tm 3#8 s) : Int) = (col s : Int) :=
  all8 (P := fun s => bits .or .u32 (bits .or .u32 (bits .or .u32 ((b8 (tm 2#8 s) : Int) * 16777216) ((b8 s : Int) * 65536)) ((b8 s : Int) * 256)) (b8 (tm 3#8 s) : Int) = (col s : Int)) (by decide +kernel) s
set_option maxHeartbeats 1000000 in
theorem column_any (s : B8) (w : World) :
    Calls Try.prog 52 #[.int .u8 (b8 s)] w fun e w' => e = .returned (.int .u32 (col s : Nat)) ∧ w' = w := by
  have hs := b8_lt s
  have h2 := b8_lt (tm 2#8 s)
  have h3 := b8_lt (tm 3#8 s)
  have H := Hid.mk' (fun x => times_any x s w)
  go_enter Try.func52, Try.ntmps52
  go_wp2_with fail
  refine Calls.mono (H.out 2#8) ?_
  rintro e w1 ⟨rfl, hw⟩
  have hw' := hw.symm
  subst hw'
  go_wp2_with fail
  refine Calls.mono (H.out 3#8) ?_
  rintro e w1 ⟨rfl, hw⟩
  have hw' := hw.symm
  subst hw'
  go_wp2
  go_ret
  refine ⟨?_, rfl⟩
  rw [← col_or s]; rfl
end Go.Proofs.Ytdlalpklopnpjaa
