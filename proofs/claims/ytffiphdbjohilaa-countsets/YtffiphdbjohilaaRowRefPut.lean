/- The reference's Put, by division. -/
import Derived.Test.YtffiphdbjohilaaRowAwake
namespace Go.Proofs.Ytffiphdbjohilaa
open Go.RowKit

theorem refPut_size {v : Value} (w : World) (n : Int) (s : Int) (hs : ¬ (1 ≤ s ∧ s ≤ 8)) :
    Calls Try.prog 30 #[v, .int .u64 n, .int .i64 s] w fun e w' => e = .returned (.tuple #[.slice none 0 0, .int .i64 1]) ∧ w' = w := by
  by_cases h1 : s < 1
  · go_enter Try.func30, Try.ntmps30
    go_wp2
    go_ret2
    exact ⟨rfl, rfl⟩
  · have h8 : 8 < s := by omega
    go_enter Try.func30, Try.ntmps30
    go_wp2
    go_ret2
    exact ⟨rfl, rfl⟩

theorem be_rev (n k : Nat) : (be n (k + 1)).reverse = (be n k).reverse ++ [n / 256 ^ k % 256] := by simp [be]
theorem rev_getD (l : List Nat) (k : Nat) (h : k < l.length) : l.reverse.getD (l.length - 1 - k) 0 = l.getD k 0 := by
  have e : l.length - 1 - (l.length - 1 - k) = k := by omega
  simp [List.getD, List.getElem?_reverse (show l.length - 1 - k < l.length by omega), e]

set_option maxHeartbeats 1000000 in
theorem refPut_any {v : Value} {xs : List Nat} {w : World} (hv : Bs w v xs) (hl : xs.length ≤ 140737488351232) (n s : Nat) (h1 : 1 ≤ s) (h8 : s ≤ 8) (hn64 : n < 18446744073709551616) :
    Calls Try.prog 30 #[v, .int .u64 n, .int .i64 s] w fun e w' => ∃ v', ∃ f : Int, e = .returned (.tuple #[v', .int .i64 f]) ∧ Below w.heap.size w w' ∧
      ((n / 256 ^ s ≠ 0 ∧ v' = .slice none 0 0 ∧ f = 1) ∨ (n / 256 ^ s = 0 ∧ f = 0 ∧ Bs w' v' (xs ++ be n s))) := by
  obtain ⟨i0, hi, hz0, hz1, hz2⟩ := info_parts u8info
  have HV : Hid (Bs w v xs) := hv
  obtain ⟨ao, cap, rfl, _, _⟩ := hv.gen
  clear hv
  have k1 : ¬ (s : Int) < 1 := by omega
  have k2 : ¬ 8 < (s : Int) := by omega
  go_enter Try.func30, Try.ntmps30
  go_wp2
  go_loopw [1, 8, 9] (fun m o i wr => ∃ k : Nat, k ≤ s ∧ i = .int .i64 k ∧ m = .int .u64 (n / 256 ^ k : Nat) ∧ Ow wr w.heap.size o (be n k).reverse ∧ Below w.heap.size w wr) (fun _ _ i _ => s - (intOf i).toNat)
  case atStart => exact ⟨0, Nat.zero_le _, rfl, by simp, Ow.nil _ _, Below.refl _ _⟩
  case round =>
    obtain ⟨k, hk, rfl, rfl, ho, hbel⟩ := hrel
    have hsz := hbel.size
    by_cases hlt : k < s
    · obtain ⟨M, hM⟩ : ∃ M, n / 256 ^ k = M := ⟨_, rfl⟩
      have HM : Hid (n / 256 ^ k = M) := hM
      have hM64 : M < 18446744073709551616 := by rw [← hM]; exact Nat.lt_of_le_of_lt (Nat.div_le_self _ _) hn64
      have hlk : (be n k).reverse.length = k := by rw [List.length_reverse, be_len]
      have HO : Hid (Ow wr w.heap.size u8 (be n k).reverse) := ho
      have HR : Hid (wr.ownsRow w.heap.size 5 1 u8 k (u8s (be n k).reverse)) := by have := ho.own; rw [hlk] at this; exact this
      rw [hM]
      clear ho hM
      go_wp2_with (at_builtin; refine wpList_append_own _ rfl _ _ 23 rfl w.heap.size 5 i0 (.int .u8 0) 1 1 Try.underlying23 hi hz0 hz1 hz2 rfl (by decide) _ _ _ rfl (HR.out.alloc _) ⟨wr.heap.size, 0, none⟩ 1 1 [.int .u8 (M % 256 : Nat)] rfl rfl (cell_new _ _ _) (by intro u hu; simp at hu; subst hu; rfl) (by unfold maxLen; omega) (by omega) (by simp; omega) ?_; intro v' w2 hown' hgrow' hnil')
      refine ⟨⟨k + 1, by omega, by go_num, ?_, ?_, (hbel.alloc hsz _).grown (by assumption) (by simp; omega) (fun j hj => (HO.out.ge j hj).1)⟩, by simp [intOf]; omega⟩
      · rw [Nat.pow_succ, ← Nat.div_div_eq_div_mul, HM.out]; simp
      · rw [be_rev, HM.out]
        exact HO.out.push (by omega) (by rw [hlk]; omega) (by rw [hlk]; assumption)
    · have hks : k = s := by omega
      subst hks
      obtain ⟨wm, hwm⟩ : ∃ wm, wm = wr := ⟨_, rfl⟩
      subst hwm
      obtain ⟨M, hM⟩ : ∃ M, n / 256 ^ k = M := ⟨_, rfl⟩
      by_cases hM0 : M = 0
      · have HM : Hid (n / 256 ^ k = 0) := hM.trans hM0
        rw [hM, hM0]
        clear hM hM0
        have HVr : Hid (Bs wm (.slice ao xs.length cap) xs) := HV.out.keep hbel.size (fun j _ hj => hbel.block j hj)
        rcases ho.shape with ⟨_, h0⟩ | ⟨g, cap2, rfl, hcap2, hBg, hg, _, hcell⟩
        · have := congrArg List.length h0
          simp [be_len] at this; omega
        have hlk : (be n k).reverse.length = k := by rw [List.length_reverse, be_len]
        rw [hlk] at hcell hcap2 ⊢
        have HC : Hid (∀ i, i < k → wm.cell? ⟨g, i, none⟩ = some (.int .u8 ((be n k).reverse.getD i 0 : Nat))) := hcell
        clear ho hcell hlk
        go_wp2_with fail
        refine Calls.mono (copy_any HVr.out (by omega)) ?_
        rintro e w1 ⟨v1, rfl, hown1, hb1⟩
        go_wp2
        go_loopw [10, 11] (fun o i wr => ∃ j : Nat, j ≤ k ∧ i = .int .i64 ((k : Int) - 1 - j) ∧ Ow wr wm.heap.size o (xs ++ (be n k).take j) ∧ Below wm.heap.size wm wr) (fun _ i _ => ((intOf i) + 1).toNat)
        case atStart => exact ⟨0, Nat.zero_le _, by simp, by simpa using hown1, hb1⟩
        case round =>
          obtain ⟨j, hj, rfl, ho, hbq⟩ := hrel
          have hsq := hbq.size
          by_cases hlt2 : j < k
          · have ej : (k : Int) - 1 - j = ((k - 1 - j : Nat) : Int) := by omega
            obtain ⟨y, hy⟩ : ∃ y, (be n k).getD j 0 = y := ⟨_, rfl⟩
            have hjl : j < (be n k).length := by rw [be_len]; exact hlt2
            have hy1 : y < 256 := by rw [← hy]; exact be_lt n k _ (getD_mem _ j hjl)
            have f1 : wr.cell? ⟨g, k - 1 - j, none⟩ = some (.int .u8 (y : Nat)) := by
              have h2 := rev_getD (be n k) j hjl
              rw [be_len, hy] at h2
              rw [hbq.cell (by exact hg), HC.out _ (by omega), h2]
            have HT : Hid (xs ++ (be n k).take (j + 1) = (xs ++ (be n k).take j) ++ [y]) := by
              show _ = _
              rw [take_next' _ j hjl, hy, List.append_assoc]
            have hlj : (xs ++ (be n k).take j).length = xs.length + j := by rw [List.length_append, List.length_take, be_len]; omega
            have HO : Hid (Ow wr wm.heap.size u10 (xs ++ (be n k).take j)) := ho
            have HR : Hid (wr.ownsRow wm.heap.size 5 1 u10 (xs.length + j) (u8s (xs ++ (be n k).take j))) := by have := ho.own; rw [hlj] at this; exact this
            have j1 : (0 : Int) ≤ (k - 1 - j : Nat) := by omega
            have j2 : k - 1 - j < k := by omega
            have HK : Hid (j + (k - 1 - j) + 1 = k) := by show _ = _; omega
            rw [ej]
            clear ho hy ej
            generalize k - 1 - j = q at *
            go_wp2_with (at_builtin; refine wpList_append_own _ rfl _ _ 23 rfl wm.heap.size 5 i0 (.int .u8 0) 1 1 Try.underlying23 hi hz0 hz1 hz2 rfl (by decide) _ _ _ rfl (HR.out.alloc _) ⟨wr.heap.size, 0, none⟩ 1 1 [.int .u8 (y : Nat)] rfl rfl (cell_new _ _ _) (by intro u hu; simp at hu; subst hu; rfl) (by unfold maxLen; omega) (by omega) (by simp; omega) ?_; intro v' w2 hown' hgrow' hnil')
            have hk' := HK.out
            refine ⟨⟨j + 1, by omega, congrArg _ (by omega), ?_, (hbq.alloc hsq _).grown (by assumption) (by simp; omega) (fun j hj => (HO.out.ge j hj).1)⟩, by simp [intOf]⟩
            rw [HT.out]
            exact HO.out.push hy1 (by rw [hlj]; omega) (by rw [hlj]; assumption)
          · have hjk : j = k := by omega
            subst hjk
            rw [List.take_of_length_le (by rw [be_len]; omega)] at ho
            have HO : Hid (Bs wr u10 (xs ++ be n j)) := ho.bs
            clear ho
            go_wp2
            go_ret2
            exact ⟨_, _, rfl, hbel.trans (hbq.mono hsz), .inr ⟨HM.out, rfl, HO.out⟩⟩
      · have HM : Hid (n / 256 ^ k ≠ 0) := by rw [hM]; exact hM0
        rw [hM]
        have hM0' : ¬ (M : Int) = 0 := by omega
        clear hM ho
        go_wp2
        go_ret2
        exact ⟨_, _, rfl, hbel, .inl ⟨HM.out, rfl, rfl⟩⟩
end Go.Proofs.Ytffiphdbjohilaa
