/- The reference's digest: rotr, words, Padded. -/
import Derived.Test.YthpgjbblbhjndaaDoorShaMath
import Derived.Test.YthpgjbblbhjndaaDoorBlocks
import Derived.Laws.CopyOwn
namespace Go.Proofs.YthpgjbblbhjndaaDoor
open Go.RowKit

theorem rotr_any (x : BitVec 32) (n : Nat) (h1 : 1 ≤ n) (h2 : n ≤ 31) (w : World) :
    Calls Tryd.prog 38 #[.int .u32 (nt x), .int .u64 n] w fun e w' => e = .returned (.int .u32 (nt (x.rotateRight n))) ∧ w' = w := by
  have hx := nt_lt x
  have hr := rot_nt x n h2
  go_enter Tryd.func38, Tryd.ntmps38
  go_wp2
  go_ret
  refine ⟨?_, rfl⟩
  rw [← hr]; rfl

theorem u32s_one (l : List (BitVec 32)) : (u32s l).toArray.all (·.oneCell') = true := by
  rw [Array.all_eq_true_iff_forall_mem]
  intro u hu
  simp only [List.mem_toArray, u32s, List.mem_map] at hu
  obtain ⟨x, _, rfl⟩ := hu
  rfl
theorem size_u32s (l : List (BitVec 32)) : (u32s l).toArray.size = l.length := by simp [u32s]

/-- A whole array of words into a variable. -/
theorem wpList_store_arr {w : World} {ops : Array Oper} {rest : List Oper} {o : Oper} {a : Act} {Q : Exit → Act → World → Prop} (hgd : o.guard = none) (ty : TypeId) (x y : Operand) (ho : o.op = .store ty x y)
    (g : Nat) (l : List (BitVec 32)) (hx : a.eval x = .pointer (some ⟨g, 0, none⟩)) (hy : a.eval y = .agg (u32s l).toArray)
    (t : TypeId) (old : Array Value) (hg : w.heap[g]? = some (.cells old t (0, 0))) (hi : (Tryd.prog.info? ty).map (·.size) = some l.length) (hold : old.size = l.length)
    (h : ∀ w', Ar w' g t l → w.grownBy w' (some g) → wpList Tryd.prog ops Q rest (a.put o.dst undef) w') : wpList Tryd.prog ops Q (o :: rest) a w := by
  refine wpList_store_row hgd ty x y ho g _ hx hy t old hg (by rw [size_u32s]; exact hi) (by rw [size_u32s]; exact hold) (u32s_one l) ?_
  exact h _ (setRow_heap w g old _ t (0, 0) hg) ⟨rfl, rfl, rfl, by simp [World.setRow], fun k _ hk => setRow_other w g k _ (fun e => hk (by rw [e]))⟩

set_option maxRecDepth 100000 in
set_option maxHeartbeats 1000000 in
theorem words_any (w : World) :
    Calls Tryd.prog 36 #[] w fun e w' => e = .returned (.agg (u32s kws).toArray) ∧ But (fun _ => False) w w' := by
  have hi : (Tryd.prog.info? 73).map (·.size) = some 64 := by kernel_rfl
  go_enter Tryd.func36, Tryd.ntmps36
  go_wp2_with (first
    | (refine wpList_build rfl _ _ rfl (by kernel_rfl) ?_; rw [show (Tryd.prog.built 73 _).getD #[] = (u32s kws).toArray by kernel_rfl])
    | (refine wpList_store_arr rfl _ _ _ rfl w.heap.size kws rfl rfl 73 _ (heap_alloc_new w _) hi rfl ?_; intro w1 har hgrow))
  refine bodyPost_ret (results_cell_row rfl _ _ w.heap.size _ _ _ _ rfl har Tryd.underlying73 rfl (by rw [size_u32s]; exact hi)) rfl ⟨rfl, ?_⟩
  exact ((But.refl _ w).alloc _).grown hgrow (fun k e hk => by cases e; exact absurd hk (Nat.lt_irrefl _))

theorem Ow.row {w : World} {base : Nat} {v : Value} {zs : List Nat} (h : Ow w base v zs) {n : Nat} (hn : zs.length = n) : w.ownsRow base 5 1 v n (u8s zs) := by
  rw [← hn]; exact h.own

set_option maxHeartbeats 1000000 in
theorem padded_any {v : Value} {xs : List Nat} {w : World} (hv : Bs w v xs) (hl : xs.length ≤ 1048576) :
    Calls Tryd.prog 37 #[v] w fun e w' => ∃ v', e = .returned v' ∧ Ow w' w.heap.size v' (padded xs) ∧ Below w.heap.size w w' := by
  obtain ⟨i0, hi, hz0, hz1, hz2⟩ := info_parts u8info
  have HV : Hid (Bs w v xs) := hv
  obtain ⟨ao, cap, rfl, hnone, _⟩ := hv.gen
  clear hv
  obtain ⟨n, hn⟩ : ∃ n, xs.length = n := ⟨_, rfl⟩
  rw [hn] at hl hnone HV ⊢
  have HN : Hid (xs.length = n) := hn
  clear hn
  go_enter Tryd.func37, Tryd.ntmps37
  go_wp2_with (first
    | (at_make; refine wpList_make_own _ rfl _ _ 31 rfl w.heap.size 5 i0 (.int .u8 0) 1 Tryd.underlying31 hi hz0 hz1 .i64 .i64 _ (n + 72) rfl rfl (by go_num) (by rw [hz2]; omega) (by unfold maxLen; omega) (Nat.le_refl _) ?_; intro w1 hown hgrow)
    | (at_builtin; refine wpList_append_fits_any _ rfl _ _ 31 rfl w.heap.size 5 i0 1 Tryd.underlying31 hi hz1 w.heap.size 0 (n + 72) [] rfl hown ao n cap (u8s xs) rfl (by simp [u8s]; exact HN.out) hnone ((HV.out.grown hgrow (by simp)).cells) (u8s_one xs) (by omega) ?_; rw [Nat.zero_add]; intro w2 hown2 hgrow2)
    | (at_builtin; refine wpList_append_fits _ rfl _ _ 31 rfl w.heap.size 5 i0 1 Tryd.underlying31 hi hz1 w.heap.size n (n + 72) _ rfl (hown2.alloc _) ⟨w2.heap.size, 0, none⟩ 1 1 (u8s [128]) rfl rfl (cell_new _ _ _) (u8s_one _) (by omega) ?_; intro w3 hown3 hgrow3))
  have b1 := (Below.refl w.heap.size w).grown hgrow (Nat.le_refl _) (by simp)
  have s1 := b1.size
  have b2 := b1.grown hgrow2 s1 (by simp)
  have b3 := (b2.alloc b2.size (.cells #[.int .u8 128] 5)).grown hgrow3 (by simp; have := b2.size; omega) (by simp)
  have HO3 : Hid (Ow w3 w.heap.size (.slice (some ⟨w.heap.size, 0, none⟩) (n + 1) (n + 72)) (xs ++ [128] ++ List.replicate 0 0)) := by
    refine ⟨?_, by simp [HN.out]; omega, ?_⟩
    · intro z hz
      simp at hz
      rcases hz with hz | rfl
      · exact HV.out.1 z hz
      · decide
    · have e : (xs ++ [128] ++ List.replicate 0 0).length = n + 1 := by simp [HN.out]
      rw [e]
      simpa [u8s] using hown3
  clear hown hown2 hown3 hgrow hgrow2 hgrow3 b1 b2
  have HNo : Hid ((n + 1 + noughts n) % 64 = 56 ∧ noughts n < 64 ∧ ∀ j, j < noughts n → (n + 1 + j) % 64 ≠ 56) := by
    refine ⟨?_, ?_, fun j hj => ?_⟩ <;> unfold noughts at * <;> omega
  go_loopw [3] (fun o wr => ∃ j : Nat, j ≤ noughts n ∧ o = .slice (some ⟨w.heap.size, 0, none⟩) (n + 1 + j) (n + 72) ∧ Ow wr w.heap.size (.slice (some ⟨w.heap.size, 0, none⟩) (n + 1 + j) (n + 72)) (xs ++ [128] ++ List.replicate j 0) ∧ Below w.heap.size w wr)
    (fun o _ => match o with | .slice _ k _ => n + 1 + noughts n - k | _ => 0)
  case atStart => exact ⟨0, Nat.zero_le _, rfl, HO3.out, b3⟩
  case round =>
    obtain ⟨j, hj, rfl, ho, hbel⟩ := hrel
    have hsz := hbel.size
    have hlen : (xs ++ [128] ++ List.replicate j 0).length = n + 1 + j := by rw [List.length_append, List.length_append, List.length_replicate, HN.out]; rfl
    have hno := HNo.out
    by_cases hlt : j < noughts n
    · have hq : ¬ ((n + 1 + j : Nat) : Int) % 64 = 56 := by have := hno.2.2 j hlt; omega
      have HO : Hid (Ow wr w.heap.size (.slice (some ⟨w.heap.size, 0, none⟩) (n + 1 + j) (n + 72)) (xs ++ [128] ++ List.replicate j 0)) := ho
      have HR := Hid.mk' (ho.row hlen)
      have hfit : n + 1 + j + 1 ≤ n + 72 := by omega
      have HJ : Hid (n + 1 + j + 1 = n + 1 + (j + 1)) := by show _ = _; omega
      have HQ : Hid (n + 1 + noughts n - (n + 1 + (j + 1)) < n + 1 + noughts n - (n + 1 + j)) := by show _ < _; omega
      clear ho hno
      generalize n + 1 + j = q at *
      go_wp2_with (at_builtin; refine wpList_append_fits _ rfl _ _ 31 rfl w.heap.size 5 i0 1 Tryd.underlying31 hi hz1 w.heap.size q (n + 72) _ rfl (HR.out.alloc _) ⟨wr.heap.size, 0, none⟩ 1 1 [.int .u8 (0 : Nat)] rfl rfl (cell_new _ _ _) (u8s_one [0]) hfit ?_; intro w4 hown4 hgrow4)
      have hj' := HJ.out
      refine ⟨⟨j + 1, by omega, by rw [hj'], ?_, (hbel.alloc hsz _).grown hgrow4 (by simp; omega) (by simp)⟩, by simp only [hj']; exact HQ.out⟩
      have hp := HO.out.push (y := 0) (by decide) (by rw [hlen]; omega) (by rw [hlen]; exact hown4)
      have e : xs ++ [128] ++ List.replicate (j + 1) 0 = xs ++ [128] ++ List.replicate j 0 ++ [0] := by rw [List.replicate_succ', ← List.append_assoc]
      rw [e, ← hj']
      exact hp
    · have hjn : j = noughts n := by omega
      subst hjn
      obtain ⟨wm, hwm⟩ : ∃ wm, wm = wr := ⟨_, rfl⟩
      subst hwm
      have hq : ((n + 1 + noughts n : Nat) : Int) % 64 = 56 := by omega
      have HO : Hid (Ow wm w.heap.size (.slice (some ⟨w.heap.size, 0, none⟩) (n + 1 + noughts n) (n + 72)) (xs ++ [128] ++ List.replicate (noughts n) 0)) := ho
      have hfit : n + 1 + noughts n + 8 ≤ n + 72 := by omega
      have HP : Hid (padded xs = xs ++ [128] ++ List.replicate (noughts n) 0 ++ be8 (8 * n)) := by show _ = _; unfold padded; rw [HN.out]
      generalize xs ++ [128] ++ List.replicate (noughts n) 0 = X at *
      clear ho hno HNo hlt hj
      generalize n + 1 + noughts n = q at *
      go_wp2
      clear hq
      go_loopw [3, 5] (fun o i wr => ∃ k : Nat, k ≤ 8 ∧ i = .int .i64 k ∧ o = .slice (some ⟨w.heap.size, 0, none⟩) (q + k) (n + 72) ∧ Ow wr w.heap.size (.slice (some ⟨w.heap.size, 0, none⟩) (q + k) (n + 72)) (X ++ (be8 (8 * n)).take k) ∧ Below w.heap.size w wr)
        (fun _ i _ => 8 - (intOf i).toNat)
      case atStart => exact ⟨0, by decide, rfl, rfl, by simpa using HO.out, hbel⟩
      case round =>
        obtain ⟨k, hk, rfl, rfl, ho, hbr⟩ := hrel
        have hsr := hbr.size
        by_cases hlt : k < 8
        · have hlen2 : (X ++ (be8 (8 * n)).take k).length = q + k := by rw [List.length_append, hlen, List.length_take]; simp [be8]; omega
          have HO2 := Hid.mk' ho
          have HR2 := Hid.mk' (ho.row hlen2)
          have hfit2 : q + k + 1 ≤ n + 72 := by omega
          clear ho
          obtain ⟨y, hy⟩ : ∃ y, 8 * n / 2 ^ (56 - 8 * k) % 256 = y := ⟨_, rfl⟩
          have hyi : (8 * (n : Int)) / 2 ^ (56 - 8 * k) % 256 = (y : Int) := by
            have e : (8 * (n : Int)) / 2 ^ (56 - 8 * k) % 256 = ((8 * n / 2 ^ (56 - 8 * k) % 256 : Nat) : Int) := by simp
            rw [e, hy]
          have hy1 : y < 256 := by omega
          have HT : Hid (X ++ (be8 (8 * n)).take (k + 1) = X ++ (be8 (8 * n)).take k ++ [y]) := by
            show _ = _
            have hb : (be8 (8 * n)).getD k 0 = y := by rw [← hy]; simp [be8, hlt]
            rw [take_next' _ k (by simp [be8]; exact hlt), hb, List.append_assoc]
          clear hy
          go_wp2_with (at_builtin; refine wpList_append_fits _ rfl _ _ 31 rfl w.heap.size 5 i0 1 Tryd.underlying31 hi hz1 w.heap.size (q + k) (n + 72) _ rfl (HR2.out.alloc _) ⟨wr.heap.size, 0, none⟩ 1 1 [.int .u8 (y : Nat)] rfl rfl (cell_new _ _ _) (u8s_one [y]) hfit2 ?_; intro w4 hown4 hgrow4)
          refine ⟨⟨k + 1, by omega, by go_num, by rw [Nat.add_assoc], ?_, (hbr.alloc hsr _).grown hgrow4 (by simp; omega) (by simp)⟩, by simp [intOf]; omega⟩
          have hp := HO2.out.push (y := y) hy1 (by rw [hlen2]; omega) (by rw [hlen2]; exact hown4)
          rw [HT.out, ← Nat.add_assoc]
          exact hp
        · have hk8 : k = 8 := by omega
          subst hk8
          have e8 : (be8 (8 * n)).take 8 = be8 (8 * n) := List.take_of_length_le (by simp [be8])
          rw [e8, ← HP.out] at ho
          have HO2 := Hid.mk' ho
          clear ho
          go_wp2
          go_ret
          exact ⟨_, rfl, HO2.out, hbr⟩
end Go.Proofs.YthpgjbblbhjndaaDoor
