/- row: Put. -/
import Derived.Test.YtlfppgdaoijklaaRowNum
import Derived.Laws.CopyOwn
namespace Go.Proofs.Ytlfppgdaoijklaa
open Go.RowKit

/-- The lowest k bytes of N, the highest first. -/
def be (N : Nat) : Nat → List Nat
  | 0 => []
  | k + 1 => (N / 256 ^ k % 256) :: be N k
theorem be_len (N k : Nat) : (be N k).length = k := by induction k with
  | zero => rfl
  | succ k ih => simp [be, ih]
theorem be_lt (N k : Nat) : ∀ z ∈ be N k, z < 256 := by induction k with
  | zero => simp [be]
  | succ k ih =>
    intro z hz
    rcases List.mem_cons.1 hz with rfl | hz
    · omega
    · exact ih z hz
theorem val_from (a : Nat) (zs : List Nat) : zs.foldl (fun a z => 256 * a + z) a = a * 256 ^ zs.length + val zs := by
  unfold val
  induction zs generalizing a with
  | nil => simp
  | cons z r ih =>
    simp only [List.foldl_cons, List.length_cons]
    rw [ih (256 * a + z), ih (256 * 0 + z), Nat.pow_succ]
    have e1 : (256 * a + z) * 256 ^ r.length = 256 * a * 256 ^ r.length + z * 256 ^ r.length := Nat.add_mul _ _ _
    have e2 : a * (256 ^ r.length * 256) = 256 * a * 256 ^ r.length := by rw [Nat.mul_comm (256 ^ r.length) 256, ← Nat.mul_assoc, Nat.mul_comm a 256]
    have e3 : (256 * 0 + z) * 256 ^ r.length = z * 256 ^ r.length := by rw [Nat.mul_zero, Nat.zero_add]
    omega
theorem val_append (xs ys : List Nat) : val (xs ++ ys) = val xs * 256 ^ ys.length + val ys := by
  have h : val (xs ++ ys) = ys.foldl (fun a z => 256 * a + z) (val xs) := by unfold val; rw [List.foldl_append]
  rw [h, val_from]
theorem val_be (N k : Nat) : val (be N k) = N % 256 ^ k := by
  induction k with
  | zero => simp [be, val, Nat.mod_one]
  | succ k ih =>
    have e : be N (k + 1) = [N / 256 ^ k % 256] ++ be N k := rfl
    rw [e, val_append, be_len, ih]
    have h1 : val [N / 256 ^ k % 256] = N / 256 ^ k % 256 := by simp [val]
    rw [h1, Nat.pow_succ, Nat.mod_mul, Nat.mul_comm]
    omega

theorem setRow_at (w : World) (g : Nat) (cs cur : Array Value) (t : TypeId) (fr : Nat × Nat) (h : w.heap[g]? = some (.cells cur t fr)) : (w.setRow g cs).heap[g]? = some (.cells cs t fr) := by
  simp [World.setRow, Array.getElem?_modify, h]
theorem wpList_copy_bs {w : World} {ops : Array Oper} {rest : List Oper} {o : Oper} {a : Act} {Q : Exit → Act → World → Prop} (hgd : o.guard = none) (d s : Operand)
    (ho : o.op = .call { callee := .builtin .copy, args := #[d, s], argTypes := #[44, 44] }) (g dLen dCap : Nat) (v : Value) (xs ys : List Nat)
    (hd : a.eval d = .slice (some ⟨g, 0, none⟩) dLen dCap) (hs : a.eval s = v) (hv : Bs w v xs) (hl : dLen = ys.length) (hle : xs.length ≤ ys.length) (hg : w.heap[g]? = some (.cells (u8s ys).toArray 5 (0, 0)))
    (h' : ∀ w', w'.heap[g]? = some (.cells (u8s (xs ++ ys.drop xs.length)).toArray 5 (0, 0)) → w.grownBy w' (some g) → wpList Try.prog ops Q rest (a.put o.dst (goInt xs.length)) w') : wpList Try.prog ops Q (o :: rest) a w := by
  obtain ⟨i0, hi, hz0, hz1, hz2⟩ := info_parts u8info
  have hsz : (Try.prog.info? 5).map (·.size) = some 1 := by rw [hi]; simp [hz1]
  obtain ⟨ao, cap, rfl, hnone, hc⟩ := hv.gen
  have h := h' (w.setRow g (u8s (xs ++ ys.drop xs.length)).toArray) (setRow_at w g _ _ _ _ hg) ⟨rfl, rfl, rfl, by simp [World.setRow], fun k _ hk => setRow_other w g k _ (fun e => hk (by rw [e]))⟩
  have hmin : Nat.min xs.length dLen = xs.length := Nat.min_eq_left (by omega)
  cases ao with
  | none =>
    obtain ⟨h0, _⟩ := hnone rfl
    have := List.eq_nil_of_length_eq_zero h0
    subst this
    refine wpList_copy_nothing hgd d s _ _ ho 5 Try.underlying44 hsz _ _ _ _ _ _ hd hs (by simp) ?_
    rw [List.nil_append, List.length_nil, List.drop_zero, setRow_self w g _ _ _ hg] at h
    exact h
  | some ad =>
    refine wpList_copy_own hgd d s _ _ ho 5 Try.underlying44 hsz g 0 dLen dCap ad _ _ hd hs _ _ hg (u8s xs) (by rw [hmin]; simp [u8s]) (hc ad rfl) (by simp [u8s]; omega) (u8s_one xs) ?_
    have e : (List.take 0 (u8s ys).toArray.toList ++ (u8s xs ++ List.drop (0 + (u8s xs).length) (u8s ys).toArray.toList)) = u8s (xs ++ ys.drop xs.length) := by
      simp [u8s]
    rw [e]
    have e2 : (u8s xs).length = xs.length := by simp [u8s]
    rw [e2]
    exact h

theorem shr_pow (n s : Nat) : (n : Int) / 2 ^ (8 * s) = ((n / 256 ^ s : Nat) : Int) := by
  have e : (256 : Nat) ^ s = 2 ^ (8 * s) := by rw [Nat.pow_mul]
  rw [e]; simp

theorem rowput_size {v : Value} (w : World) (n : Int) (s : Int) (hs : ¬ (1 ≤ s ∧ s ≤ 8)) :
    Calls Try.prog 13 #[v, .int .u64 n, .int .i64 s] w fun e w' => e = .returned (.tuple #[.slice none 0 0, .int .i64 1]) ∧ w' = w := by
  have HI : Hid (Calls Try.prog 14 #[.int .i64 s] w fun e w' => e = .returned (.bool false) ∧ w' = w) := by
    have := isSize_any s w
    rw [decide_eq_false hs] at this
    exact this
  clear hs
  go_enter Try.func13, Try.ntmps13
  go_wp2_with (go_at_call 14; refine Calls.mono HI.out ?_; rintro e w' ⟨rfl, hw1⟩; have hw2 := hw1.symm; subst hw2)
  go_ret2
  exact ⟨rfl, rfl⟩
theorem put_room {v : Value} (w : World) (n s : Nat) (h1 : 1 ≤ s) (h8 : s ≤ 8) (hn : n / 256 ^ s ≠ 0) :
    Calls Try.prog 13 #[v, .int .u64 n, .int .i64 s] w fun e w' => e = .returned (.tuple #[.slice none 0 0, .int .i64 1]) ∧ w' = w := by
  have HI : Hid (Calls Try.prog 14 #[.int .i64 s] w fun e w' => e = .returned (.bool true) ∧ w' = w) := by
    have := isSize_any s w
    rw [decide_eq_true (by omega)] at this
    exact this
  have hd : ((n : Int) / 2 ^ (8 * s) != 0) = true := by
    rw [shr_pow]
    generalize n / 256 ^ s = m at *
    simp; omega
  clear hn
  go_enter Try.func13, Try.ntmps13
  go_wp2_with (go_at_call 14; refine Calls.mono HI.out ?_; rintro e w' ⟨rfl, hw1⟩; have hw2 := hw1.symm; subst hw2)
  go_ret2
  exact ⟨rfl, rfl⟩

theorem made_zero (m : Nat) : (madeCells (Value.int .u8 0).cells (m * 1)).toList = u8s (List.replicate m 0) := by
  have : (Value.int .u8 0).cells = #[.int .u8 0] := rfl
  rw [this, Nat.mul_one, toList_madeCells_one]; simp [u8s]
theorem own_block {w : World} {B g m : Nat} {xs : List Value} (h : w.ownsRow B 5 1 (.slice (some ⟨g, 0, none⟩) m m) m xs) : w.heap[g]? = some (.cells xs.toArray 5 (0, 0)) := by
  obtain ⟨h1, ⟨h2, _⟩ | ⟨g', cap, cur, h2, _, hh, _, _, hs, ht⟩⟩ := h
  · cases h2
  · simp only [Value.slice.injEq, Option.some.injEq, Addr.mk.injEq, and_true] at h2
    obtain ⟨rfl, _, rfl⟩ := h2
    rw [hh, ← ht, Nat.mul_one]
    have e : cur.toList.take m = cur.toList := List.take_of_length_le (by rw [Array.length_toList]; omega)
    rw [e]
theorem block_own {w : World} {B g : Nat} {zs : List Nat} (h : w.heap[g]? = some (.cells (u8s zs).toArray 5 (0, 0))) (hB : B ≤ g) (hz : ∀ z ∈ zs, z < 256) (hl : zs.length ≤ 281474976710656) : Ow w B (.slice (some ⟨g, 0, none⟩) zs.length zs.length) zs := by
  refine ⟨hz, hl, by simp [u8s], .inr ⟨g, zs.length, _, rfl, hB, h, Nat.le_refl _, by unfold maxLen; omega, by simp [u8s], ?_⟩⟩
  rw [Nat.mul_one]; exact List.take_of_length_le (by simp [u8s])
theorem set_next (xs : List Nat) (s k d N : Nat) (hk : k < s) (hd : d = N / 256 ^ k % 256) :
    (u8s (xs ++ (List.replicate (s - k) 0 ++ be N k))).toArray.setIfInBounds (xs.length + s - 1 - k) (.int .u8 (d : Nat)) = (u8s (xs ++ (List.replicate (s - (k + 1)) 0 ++ be N (k + 1)))).toArray := by
  subst hd
  apply Array.ext'
  rw [Array.toList_setIfInBounds]
  show (u8s (xs ++ (List.replicate (s - k) 0 ++ be N k))).set _ _ = u8s (xs ++ (List.replicate (s - (k + 1)) 0 ++ be N (k + 1)))
  have e1 : s - k = (s - (k + 1)) + 1 := by omega
  have e2 : xs.length + s - 1 - k = xs.length + (s - (k + 1)) := by omega
  rw [e1, e2, List.replicate_succ']
  simp only [u8s, List.map_append, List.map_cons, be, List.append_assoc]
  rw [List.set_append_right _ _ (by simp), List.length_map, Nat.add_sub_cancel_left, List.set_append_right _ _ (by simp)]
  simp

set_option maxRecDepth 100000 in
theorem put_ok {v : Value} {xs : List Nat} {w : World} (hv : Bs w v xs) (hl : xs.length ≤ 140737488355328) (n s : Nat) (h1 : 1 ≤ s) (h8 : s ≤ 8) (hn : n / 256 ^ s = 0) :
    Calls Try.prog 13 #[v, .int .u64 n, .int .i64 s] w fun e w' => ∃ v', e = .returned (.tuple #[v', .int .i64 0]) ∧ Ow w' w.heap.size v' (xs ++ be n s) ∧ Below w.heap.size w w' := by
  obtain ⟨i0, hi, hz0, hz1, hz2⟩ := info_parts u8info
  have HI : Hid (Calls Try.prog 14 #[.int .i64 s] w fun e w' => e = .returned (.bool true) ∧ w' = w) := by
    have := isSize_any s w
    rw [decide_eq_true (by omega)] at this
    exact this
  have hd : ((n : Int) / 2 ^ (8 * s) != 0) = false := by
    rw [shr_pow, hn]; rfl
  have HV : Hid (Bs w v xs) := hv
  obtain ⟨ao, cap, rfl, hnone, _⟩ := hv.gen
  obtain ⟨L, hL⟩ : ∃ L, xs.length = L := ⟨_, rfl⟩
  rw [hL] at hl hnone HV ⊢
  have HL : Hid (xs.length = L) := hL
  clear hn hv hL
  go_enter Try.func13, Try.ntmps13
  go_wp2_with (first
    | (go_at_call 14; refine Calls.mono HI.out ?_; rintro e w' ⟨rfl, hw1⟩; have hw2 := hw1.symm; subst hw2)
    | (at_make; refine wpList_make_full _ rfl _ _ 44 rfl w.heap.size 5 i0 (.int .u8 0) 1 Try.underlying44 hi hz0 hz1 .i64 .i64 _ _ (L + s) rfl rfl (by go_num) (by go_num) (by rw [hz2]; omega) (by unfold maxLen; omega) (Nat.le_refl _) ?_; intro w1 hown hgrow)
    | (refine wpList_copy_bs rfl _ _ rfl w.heap.size (L + s) (L + s) _ xs (List.replicate (L + s) 0) rfl rfl (HV.out.grown hgrow (by simp)) (by simp) (by rw [HL.out]; simp) (by rw [own_block hown, made_zero]) ?_; intro w2 hg2 hgrow2))
  have hb1 : Below w.heap.size w w1 := (Below.refl _ _).grown hgrow (Nat.le_refl _) (by simp)
  have hb2 : Below w.heap.size w w2 := hb1.grown hgrow2 hb1.size (by simp)
  have hg3 : w2.heap[w.heap.size]? = some (.cells (u8s (xs ++ (List.replicate (s - 0) 0 ++ be n 0))).toArray 5 (0, 0)) := by
    rw [hg2, HL.out]
    simp [be]
  clear hown hgrow hb1 hg2 hgrow2
  go_loopw [1, 9] (fun m i wr => ∃ k : Nat, k ≤ s ∧ i = .int .i64 ((L : Int) + s - 1 - k) ∧ m = .int .u64 (n / 256 ^ k : Nat) ∧ wr.heap[w.heap.size]? = some (.cells (u8s (xs ++ (List.replicate (s - k) 0 ++ be n k))).toArray 5 (0, 0)) ∧ Below w.heap.size w wr)
    (fun _ i _ => ((intOf i) + 1 - L).toNat)
  case atStart => exact ⟨0, Nat.zero_le _, by simp, by simp, hg3, hb2⟩
  case round =>
    obtain ⟨k, hk, rfl, rfl, hg, hbel⟩ := hrel
    by_cases hlt : k < s
    · have ej : (L : Int) + s - 1 - k = ((L + s - 1 - k : Nat) : Int) := by omega
      have HJ : Hid (L + s - 1 - k = xs.length + s - 1 - k) := by show _ = _; rw [HL.out]
      obtain ⟨old, ho⟩ : ∃ x, wr.cell? ⟨w.heap.size, L + s - 1 - k, none⟩ = some x := by
        rw [cell_of_row wr _ _ _ _ _ hg]
        have hb : L + s - 1 - k < (u8s (xs ++ (List.replicate (s - k) 0 ++ be n k))).toArray.size := by simp [u8s, be_len, HL.out]; omega
        exact ⟨_, Array.getElem?_eq_getElem hb⟩
      have hz := frozen_of_row wr w.heap.size (L + s - 1 - k) _ _ hg
      have HG : Hid (wr.heap[w.heap.size]? = some (.cells (u8s (xs ++ (List.replicate (s - k) 0 ++ be n k))).toArray 5 (0, 0))) := hg
      obtain ⟨M, hM⟩ : ∃ M, n / 256 ^ k = M := ⟨_, rfl⟩
      have HM : Hid (n / 256 ^ k = M) := hM
      rw [ej, hM]
      have j1 : L ≤ L + s - 1 - k := by omega
      have j2 : L + s - 1 - k < L + s := by omega
      have HK : Hid (k + (L + s - 1 - k) + 1 = L + s) := by show _ = _; omega
      clear hg ej hM
      generalize L + s - 1 - k = j at *
      go_wp2
      have hk' := HK.out
      refine ⟨⟨k + 1, by omega, congrArg _ (by omega), ?_, ?_, hbel.setCell (by simp) _⟩, by simp [intOf]; omega⟩
      · rw [Nat.pow_succ, ← Nat.div_div_eq_div_mul, HM.out]; simp
      · have e : (M : Int) % 256 = ((M % 256 : Nat) : Int) := by omega
        rw [heap_setCell_same wr _ _ _ _ _ HG.out, e, HJ.out, set_next xs s k (M % 256) n hlt (by rw [HM.out])]
    · have hkn : k = s := by omega
      subst hkn
      have HO : Hid (Ow wr w.heap.size (.slice (some ⟨w.heap.size, 0, none⟩) (L + k) (L + k)) (xs ++ be n k)) := by
        have hlen : (xs ++ be n k).length = L + k := by rw [List.length_append, be_len, HL.out]
        rw [Nat.sub_self, List.replicate_zero, List.nil_append] at hg
        have := block_own (B := w.heap.size) hg (Nat.le_refl _) (by
          intro z hz
          rcases List.mem_append.1 hz with hz | hz
          · exact HV.out.1 z hz
          · exact be_lt n k z hz) (by rw [hlen]; omega)
        rw [hlen] at this
        exact this
      clear hg
      generalize n / 256 ^ k = M at *
      go_wp2
      go_ret2
      exact ⟨_, rfl, HO.out, hbel⟩
end Go.Proofs.Ytlfppgdaoijklaa
