/- Puts, TrMath, TrDig, RefJoin, JnMark. -/
import Derived.Test.YtmlladpmecclbaaDoorJalB
import Derived.Laws.Cover3
import Derived.Laws.Pointers
import Derived.Laws.BitsAllLaws
import Derived.Laws.CopyOwn
import Derived.Test.YtmlladpmecclbaaDoorJalA
/- row: Put. -/
namespace Go.Proofs.YtmlladpmecclbaaDoor
open Go.RowKit

/-- The lowest k bytes of N, the highest first. -/
def be (N : Nat) : Nat → List Nat
  | 0 => []
  | k + 1 => (N / 256 ^ k % 256) :: be N k
theorem be_len (N k : Nat) : (be N k).length = k := by induction k with
  | zero => rfl
  | succ k ih => simp [be, ih]
theorem be_lt (N k : Nat) : ∀ z ∈ be N k, z < 256 := by induction k with
  | zero => simp [be]
  | succ k ih =>
    intro z hz
    rcases List.mem_cons.1 hz with rfl | hz
    · omega
    · exact ih z hz
theorem setRow_at (w : World) (g : Nat) (cs cur : Array Value) (t : TypeId) (fr : Nat × Nat) (h : w.heap[g]? = some (.cells cur t fr)) : (w.setRow g cs).heap[g]? = some (.cells cs t fr) := by
  simp [World.setRow, Array.getElem?_modify, h]
theorem wpList_copy_bs {w : World} {ops : Array Oper} {rest : List Oper} {o : Oper} {a : Act} {Q : Exit → Act → World → Prop} (hgd : o.guard = none) (d s : Operand)
    (ho : o.op = .call { callee := .builtin .copy, args := #[d, s], argTypes := #[22, 22] }) (g dLen dCap : Nat) (v : Value) (xs ys : List Nat)
    (hd : a.eval d = .slice (some ⟨g, 0, none⟩) dLen dCap) (hs : a.eval s = v) (hv : Bs w v xs) (hl : dLen = ys.length) (hle : xs.length ≤ ys.length) (hg : w.heap[g]? = some (.cells (u8s ys).toArray 5 (0, 0)))
    (h' : ∀ w', w'.heap[g]? = some (.cells (u8s (xs ++ ys.drop xs.length)).toArray 5 (0, 0)) → w.grownBy w' (some g) → wpList Tryd.prog ops Q rest (a.put o.dst (goInt xs.length)) w') : wpList Tryd.prog ops Q (o :: rest) a w := by
  obtain ⟨i0, hi, hz0, hz1, hz2⟩ := info_parts u8info
  have hsz : (Tryd.prog.info? 5).map (·.size) = some 1 := by rw [hi]; simp [hz1]
  obtain ⟨ao, cap, rfl, hnone, hc⟩ := hv.gen
  have h := h' (w.setRow g (u8s (xs ++ ys.drop xs.length)).toArray) (setRow_at w g _ _ _ _ hg) ⟨rfl, rfl, rfl, by simp [World.setRow], fun k _ hk => setRow_other w g k _ (fun e => hk (by rw [e]))⟩
  have hmin : Nat.min xs.length dLen = xs.length := Nat.min_eq_left (by omega)
  cases ao with
  | none =>
    obtain ⟨h0, _⟩ := hnone rfl
    have := List.eq_nil_of_length_eq_zero h0
    subst this
    refine wpList_copy_nothing hgd d s _ _ ho 5 Tryd.underlying22 hsz _ _ _ _ _ _ hd hs (by simp) ?_
    rw [List.nil_append, List.length_nil, List.drop_zero, setRow_self w g _ _ _ hg] at h
    exact h
  | some ad =>
    refine wpList_copy_own hgd d s _ _ ho 5 Tryd.underlying22 hsz g 0 dLen dCap ad _ _ hd hs _ _ hg (u8s xs) (by rw [hmin]; simp [u8s]) (hc ad rfl) (by simp [u8s]; omega) (u8s_one xs) ?_
    have e : (List.take 0 (u8s ys).toArray.toList ++ (u8s xs ++ List.drop (0 + (u8s xs).length) (u8s ys).toArray.toList)) = u8s (xs ++ ys.drop xs.length) := by
      simp [u8s]
    rw [e]
    have e2 : (u8s xs).length = xs.length := by simp [u8s]
    rw [e2]
    exact h

theorem shr_pow (n s : Nat) : (n : Int) / 2 ^ (8 * s) = ((n / 256 ^ s : Nat) : Int) := by
  have e : (256 : Nat) ^ s = 2 ^ (8 * s) := by rw [Nat.pow_mul]
  rw [e]; simp

theorem made_zero (m : Nat) : (madeCells (Value.int .u8 0).cells (m * 1)).toList = u8s (List.replicate m 0) := by
  have : (Value.int .u8 0).cells = #[.int .u8 0] := rfl
  rw [this, Nat.mul_one, toList_madeCells_one]; simp [u8s]
theorem own_block {w : World} {B g m : Nat} {xs : List Value} (h : w.ownsRow B 5 1 (.slice (some ⟨g, 0, none⟩) m m) m xs) : w.heap[g]? = some (.cells xs.toArray 5 (0, 0)) := by
  obtain ⟨h1, ⟨h2, _⟩ | ⟨g', cap, cur, h2, _, hh, _, _, hs, ht⟩⟩ := h
  · cases h2
  · simp only [Value.slice.injEq, Option.some.injEq, Addr.mk.injEq, and_true] at h2
    obtain ⟨rfl, _, rfl⟩ := h2
    rw [hh, ← ht, Nat.mul_one]
    have e : cur.toList.take m = cur.toList := List.take_of_length_le (by rw [Array.length_toList]; omega)
    rw [e]
theorem block_own {w : World} {B g : Nat} {zs : List Nat} (h : w.heap[g]? = some (.cells (u8s zs).toArray 5 (0, 0))) (hB : B ≤ g) (hz : ∀ z ∈ zs, z < 256) (hl : zs.length ≤ 281474976710656) : Ow w B (.slice (some ⟨g, 0, none⟩) zs.length zs.length) zs := by
  refine ⟨hz, hl, by simp [u8s], .inr ⟨g, zs.length, _, rfl, hB, h, Nat.le_refl _, by unfold maxLen; omega, by simp [u8s], ?_⟩⟩
  rw [Nat.mul_one]; exact List.take_of_length_le (by simp [u8s])
theorem set_next (xs : List Nat) (s k d N : Nat) (hk : k < s) (hd : d = N / 256 ^ k % 256) :
    (u8s (xs ++ (List.replicate (s - k) 0 ++ be N k))).toArray.setIfInBounds (xs.length + s - 1 - k) (.int .u8 (d : Nat)) = (u8s (xs ++ (List.replicate (s - (k + 1)) 0 ++ be N (k + 1)))).toArray := by
  subst hd
  apply Array.ext'
  rw [Array.toList_setIfInBounds]
  show (u8s (xs ++ (List.replicate (s - k) 0 ++ be N k))).set _ _ = u8s (xs ++ (List.replicate (s - (k + 1)) 0 ++ be N (k + 1)))
  have e1 : s - k = (s - (k + 1)) + 1 := by omega
  have e2 : xs.length + s - 1 - k = xs.length + (s - (k + 1)) := by omega
  rw [e1, e2, List.replicate_succ']
  simp only [u8s, List.map_append, List.map_cons, be, List.append_assoc]
  rw [List.set_append_right _ _ (by simp), List.length_map, Nat.add_sub_cancel_left, List.set_append_right _ _ (by simp)]
  simp

set_option maxRecDepth 100000 in
theorem put_ok {v : Value} {xs : List Nat} {w : World} (hv : Bs w v xs) (hl : xs.length ≤ 140737488355328) (n s : Nat) (h1 : 1 ≤ s) (h8 : s ≤ 8) (hn : n / 256 ^ s = 0) :
    Calls Tryd.prog 44 #[v, .int .u64 n, .int .i64 s] w fun e w' => ∃ v', e = .returned (.tuple #[v', .int .i64 0]) ∧ Ow w' w.heap.size v' (xs ++ be n s) ∧ Below w.heap.size w w' := by
  obtain ⟨i0, hi, hz0, hz1, hz2⟩ := info_parts u8info
  have HI : Hid (Calls Tryd.prog 61 #[.int .i64 s] w fun e w' => e = .returned (.bool true) ∧ w' = w) := by
    have := isSize_any s w
    rw [decide_eq_true (by omega)] at this
    exact this
  have hd : ((n : Int) / 2 ^ (8 * s) != 0) = false := by
    rw [shr_pow, hn]; rfl
  have HV : Hid (Bs w v xs) := hv
  obtain ⟨ao, cap, rfl, hnone, _⟩ := hv.gen
  obtain ⟨L, hL⟩ : ∃ L, xs.length = L := ⟨_, rfl⟩
  rw [hL] at hl hnone HV ⊢
  have HL : Hid (xs.length = L) := hL
  clear hn hv hL
  go_enter Tryd.func44, Tryd.ntmps44
  go_wp2_with (first
    | (go_at_call 61; refine Calls.mono HI.out ?_; rintro e w' ⟨rfl, hw1⟩; have hw2 := hw1.symm; subst hw2)
    | (at_make; refine wpList_make_full _ rfl _ _ 22 rfl w.heap.size 5 i0 (.int .u8 0) 1 Tryd.underlying22 hi hz0 hz1 .i64 .i64 _ _ (L + s) rfl rfl (by go_num) (by go_num) (by rw [hz2]; omega) (by unfold maxLen; omega) (Nat.le_refl _) ?_; intro w1 hown hgrow)
    | (refine wpList_copy_bs rfl _ _ rfl w.heap.size (L + s) (L + s) _ xs (List.replicate (L + s) 0) rfl rfl (HV.out.grown hgrow (by simp)) (by simp) (by rw [HL.out]; simp) (by rw [own_block hown, made_zero]) ?_; intro w2 hg2 hgrow2))
  have hb1 : Below w.heap.size w w1 := (Below.refl _ _).grown hgrow (Nat.le_refl _) (by simp)
  have hb2 : Below w.heap.size w w2 := hb1.grown hgrow2 hb1.size (by simp)
  have hg3 : w2.heap[w.heap.size]? = some (.cells (u8s (xs ++ (List.replicate (s - 0) 0 ++ be n 0))).toArray 5 (0, 0)) := by
    rw [hg2, HL.out]
    simp [be]
  clear hown hgrow hb1 hg2 hgrow2
  go_loopw [1, 9] (fun m i wr => ∃ k : Nat, k ≤ s ∧ i = .int .i64 ((L : Int) + s - 1 - k) ∧ m = .int .u64 (n / 256 ^ k : Nat) ∧ wr.heap[w.heap.size]? = some (.cells (u8s (xs ++ (List.replicate (s - k) 0 ++ be n k))).toArray 5 (0, 0)) ∧ Below w.heap.size w wr)
    (fun _ i _ => ((intOf i) + 1 - L).toNat)
  case atStart => exact ⟨0, Nat.zero_le _, by simp, by simp, hg3, hb2⟩
  case round =>
    obtain ⟨k, hk, rfl, rfl, hg, hbel⟩ := hrel
    by_cases hlt : k < s
    · have ej : (L : Int) + s - 1 - k = ((L + s - 1 - k : Nat) : Int) := by omega
      have HJ : Hid (L + s - 1 - k = xs.length + s - 1 - k) := by show _ = _; rw [HL.out]
      obtain ⟨old, ho⟩ : ∃ x, wr.cell? ⟨w.heap.size, L + s - 1 - k, none⟩ = some x := by
        rw [cell_of_row wr _ _ _ _ _ hg]
        have hb : L + s - 1 - k < (u8s (xs ++ (List.replicate (s - k) 0 ++ be n k))).toArray.size := by simp [u8s, be_len, HL.out]; omega
        exact ⟨_, Array.getElem?_eq_getElem hb⟩
      have hz := frozen_of_row wr w.heap.size (L + s - 1 - k) _ _ hg
      have HG : Hid (wr.heap[w.heap.size]? = some (.cells (u8s (xs ++ (List.replicate (s - k) 0 ++ be n k))).toArray 5 (0, 0))) := hg
      obtain ⟨M, hM⟩ : ∃ M, n / 256 ^ k = M := ⟨_, rfl⟩
      have HM : Hid (n / 256 ^ k = M) := hM
      rw [ej, hM]
      have j1 : L ≤ L + s - 1 - k := by omega
      have j2 : L + s - 1 - k < L + s := by omega
      have HK : Hid (k + (L + s - 1 - k) + 1 = L + s) := by show _ = _; omega
      clear hg ej hM
      generalize L + s - 1 - k = j at *
      go_wp2
      have hk' := HK.out
      refine ⟨⟨k + 1, by omega, congrArg _ (by omega), ?_, ?_, hbel.setCell (by simp) _⟩, by simp [intOf]; omega⟩
      · rw [Nat.pow_succ, ← Nat.div_div_eq_div_mul, HM.out]; simp
      · have e : (M : Int) % 256 = ((M % 256 : Nat) : Int) := by omega
        rw [heap_setCell_same wr _ _ _ _ _ HG.out, e, HJ.out, set_next xs s k (M % 256) n hlt (by rw [HM.out])]
    · have hkn : k = s := by omega
      subst hkn
      have HO : Hid (Ow wr w.heap.size (.slice (some ⟨w.heap.size, 0, none⟩) (L + k) (L + k)) (xs ++ be n k)) := by
        have hlen : (xs ++ be n k).length = L + k := by rw [List.length_append, be_len, HL.out]
        rw [Nat.sub_self, List.replicate_zero, List.nil_append] at hg
        have := block_own (B := w.heap.size) hg (Nat.le_refl _) (by
          intro z hz
          rcases List.mem_append.1 hz with hz | hz
          · exact HV.out.1 z hz
          · exact be_lt n k z hz) (by rw [hlen]; omega)
        rw [hlen] at this
        exact this
      clear hg
      generalize n / 256 ^ k = M at *
      go_wp2
      go_ret2
      exact ⟨_, rfl, HO.out, hbel⟩
end Go.Proofs.YtmlladpmecclbaaDoor
/- tree, no code in it: a node's digests, what binds a path, and the tree above some blocks. -/
namespace Go.Proofs.YtmlladpmecclbaaDoor

/-- The digest i of a node. -/
def kidL (b : List Nat) (i : Nat) : List Nat := (b.drop (32 * i)).take 32
/-- The node with d as the digest i. -/
def setK (b : List Nat) (i : Nat) (d : List Nat) : List Nat := b.take (32 * i) ++ d ++ b.drop (32 * i + 32)
theorem kidL_len {b : List Nat} {i : Nat} (h : 32 * i + 32 ≤ b.length) : (kidL b i).length = 32 := by simp [kidL]; omega
theorem kidL_lt {b : List Nat} {i : Nat} (h : ∀ z ∈ b, z < 256) : ∀ z ∈ kidL b i, z < 256 := fun z hz => h z (List.mem_of_mem_drop (List.mem_of_mem_take hz))
theorem setK_len {b d : List Nat} {i : Nat} (h : 32 * i + 32 ≤ b.length) (hd : d.length = 32) : (setK b i d).length = b.length := by simp [setK, hd]; omega
theorem setK_lt {b d : List Nat} {i : Nat} (h : ∀ z ∈ b, z < 256) (hd : ∀ z ∈ d, z < 256) : ∀ z ∈ setK b i d, z < 256 := by
  intro z hz
  simp only [setK, List.mem_append] at hz
  rcases hz with (hz | hz) | hz
  · exact h z (List.mem_of_mem_take hz)
  · exact hd z hz
  · exact h z (List.mem_of_mem_drop hz)
theorem kid_set {b d : List Nat} {i : Nat} (h : 32 * i + 32 ≤ b.length) (hd : d.length = 32) : kidL (setK b i d) i = d := by
  unfold kidL setK
  rw [List.append_assoc, List.drop_append_of_le_length (by simp; omega), List.drop_of_length_le (by simp; omega), List.nil_append, List.take_append_of_le_length (by omega), List.take_of_length_le (by omega)]
theorem kid_other {b d : List Nat} {i k : Nat} (h : 32 * i + 32 ≤ b.length) (hd : d.length = 32) (hne : k ≠ i) : kidL (setK b i d) k = kidL b k := by
  unfold kidL
  apply List.ext_getElem?
  intro j
  by_cases hj : j < 32
  · rw [List.getElem?_take_of_lt hj, List.getElem?_take_of_lt hj, List.getElem?_drop, List.getElem?_drop]
    unfold setK
    by_cases hlt : k < i
    · rw [List.append_assoc, List.getElem?_append_left (by simp; omega), List.getElem?_take_of_lt (by omega)]
    · rw [List.getElem?_append_right (by simp [hd]; omega), List.getElem?_drop]
      congr 1
      simp [hd]; omega
  · rw [List.getElem?_eq_none (by simp; omega), List.getElem?_eq_none (by simp; omega)]
/-- A block is what its eight digests are. -/
theorem kids_ext {a b : List Nat} (ha : a.length = 256) (hb : b.length = 256) (h : ∀ i, i < 8 → kidL a i = kidL b i) : a = b := by
  apply List.ext_getElem?
  intro j
  by_cases hj : j < 256
  · have h1 := congrArg (fun l => l[j % 32]?) (h (j / 32) (by omega))
    simp only [kidL] at h1
    rw [List.getElem?_take_of_lt (by omega), List.getElem?_take_of_lt (by omega), List.getElem?_drop, List.getElem?_drop, show 32 * (j / 32) + j % 32 = j by omega] at h1
    exact h1
  · rw [List.getElem?_eq_none (by omega), List.getElem?_eq_none (by omega)]
/-- Two rows of blocks that are taken under one root are one, or two unlike blocks of one place have one digest. -/
theorem binds {m : Nat} {A B : Nat → List Nat} {D : Nat → List Nat → List Nat} {p : Nat → Nat} {root : List Nat}
    (hA : ∀ i, i < m → D i (A i) = if i + 1 = m then root else kidL (A (i + 1)) (p i)) (hB : ∀ i, i < m → D i (B i) = if i + 1 = m then root else kidL (B (i + 1)) (p i)) :
    (∀ i, i < m → A i = B i) ∨ ∃ i, i < m ∧ A i ≠ B i ∧ D i (A i) = D i (B i) := by
  have key : ∀ j, j ≤ m → (∀ i, m - j ≤ i → i < m → A i = B i) ∨ ∃ i, i < m ∧ A i ≠ B i ∧ D i (A i) = D i (B i) := by
    intro j
    induction j with
    | zero => intro _; exact .inl (fun i h1 h2 => by omega)
    | succ j ih =>
      intro hj
      rcases ih (by omega) with h | h
      · have hlt : m - (j + 1) < m := by omega
        have hd : D (m - (j + 1)) (A (m - (j + 1))) = D (m - (j + 1)) (B (m - (j + 1))) := by
          rw [hA _ hlt, hB _ hlt]
          by_cases he : m - (j + 1) + 1 = m
          · rw [if_pos he, if_pos he]
          · rw [if_neg he, if_neg he, h (m - (j + 1) + 1) (by omega) (by omega)]
        by_cases hq : A (m - (j + 1)) = B (m - (j + 1))
        · refine .inl (fun i h1 h2 => ?_)
          by_cases hi : i = m - (j + 1)
          · rw [hi]; exact hq
          · exact h i (by omega) h2
        · exact .inr ⟨_, hlt, hq, hd⟩
      · exact .inr h
  rcases key m (Nat.le_refl _) with h | h
  · exact .inl (fun i hi => h i (by omega) hi)
  · exact .inr h

/-- Where the blocks of a tree have their places: n blocks, the first c of them given. -/
structure Par (n c : Nat) (par : Nat → Option (Nat × Nat)) : Prop where
  up : ∀ i, i < n → ∀ b a, par i = some (b, a) → i < b ∧ b < n ∧ c ≤ b ∧ a < 8
  inj : ∀ i j, i < n → j < n → ∀ x, par i = some x → par j = some x → i = j
section
variable {D : Nat → List Nat → List Nat} {par : Nat → Option (Nat × Nat)} {s0 : Nat → List Nat} {n c : Nat}
/-- The digest of block i goes to its place. -/
def stp (D : Nat → List Nat → List Nat) (par : Nat → Option (Nat × Nat)) (s : Nat → List Nat) (i : Nat) : Nat → List Nat :=
  match par i with
  | none => s
  | some (b, a) => fun j => if j = b then setK (s b) a (D i (s i)) else s j
/-- What the blocks are behind k of these. -/
def stN (D : Nat → List Nat → List Nat) (par : Nat → Option (Nat × Nat)) (s0 : Nat → List Nat) : Nat → Nat → List Nat
  | 0 => s0
  | k + 1 => stp D par (stN D par s0 k) k
theorem stp_at {s : Nat → List Nat} {i b a : Nat} (h : par i = some (b, a)) : stp D par s i b = setK (s b) a (D i (s i)) := by simp [stp, h]
theorem stp_other {s : Nat → List Nat} {i j : Nat} (h : ∀ a, par i ≠ some (j, a)) : stp D par s i j = s j := by
  unfold stp
  cases hp : par i with
  | none => rfl
  | some x =>
    obtain ⟨b, a⟩ := x
    have : j ≠ b := fun e => h a (by rw [hp, e])
    simp [this]
/-- A block stays from the step on that is its own. -/
theorem stN_stays (h : Par n c par) {j k : Nat} (hjk : j ≤ k) (hk : k ≤ n) : stN D par s0 k j = stN D par s0 j j := by
  induction k with
  | zero => have : j = 0 := by omega
            rw [this]
  | succ k ih =>
    by_cases he : j = k + 1
    · rw [he]
    · rw [stN, stp_other (fun a hp => by have := (h.up k (by omega) j a hp).1; omega), ih (by omega) (by omega)]
theorem stN_given (h : Par n c par) {j k : Nat} (hj : j < c) (hk : k ≤ n) : stN D par s0 k j = s0 j := by
  induction k with
  | zero => rfl
  | succ k ih => rw [stN, stp_other (fun a hp => by have := (h.up k (by omega) j a hp).2.2.1; omega), ih (by omega)]
theorem stN_len (h : Par n c par) (hD : ∀ i b, (D i b).length = 32) (h0 : ∀ j, j < n → (s0 j).length = 256) {k : Nat} (hk : k ≤ n) : ∀ j, j < n → (stN D par s0 k j).length = 256 := by
  induction k with
  | zero => exact h0
  | succ k ih =>
    intro j hj
    cases hp : par k with
    | none => rw [stN, stp_other (fun a e => by rw [hp] at e; cases e)]; exact ih (by omega) j hj
    | some x =>
      obtain ⟨b, a⟩ := x
      by_cases hb : j = b
      · subst hb
        have ha := (h.up k (by omega) j a hp).2.2.2
        have hl := ih (by omega) j hj
        rw [stN, stp_at hp, setK_len (by omega) (hD _ _), hl]
      · rw [stN, stp_other (fun a' e => by rw [hp] at e; cases e; exact hb rfl)]; exact ih (by omega) j hj
/-- A place has the digest of its block, once that block's step is done. -/
theorem stN_kid (h : Par n c par) (hD : ∀ i b, (D i b).length = 32) (h0 : ∀ j, j < n → (s0 j).length = 256) {i b a : Nat} (hi : i < n) (hp : par i = some (b, a)) {k : Nat} (hik : i < k) (hk : k ≤ n) :
    kidL (stN D par s0 k b) a = D i (stN D par s0 i i) := by
  obtain ⟨_, hbn, _, ha⟩ := h.up i hi b a hp
  induction k with
  | zero => omega
  | succ k ih =>
    by_cases he : i = k
    · subst he
      have hl := stN_len (D := D) h hD h0 (k := i) (by omega) b hbn
      rw [stN, stp_at hp, kid_set (by omega) (hD _ _)]
    · have ih' := ih (by omega) (by omega)
      cases hq : par k with
      | none => rw [stN, stp_other (fun a' e => by rw [hq] at e; cases e)]; exact ih'
      | some x =>
        obtain ⟨b', a'⟩ := x
        by_cases hb : b = b'
        · subst hb
          have hne : a ≠ a' := fun e => he (h.inj i k hi (by omega) (b, a) hp (by rw [hq, e]))
          have ha' := (h.up k (by omega) b a' hq).2.2.2
          have hl := stN_len (D := D) h hD h0 (k := k) (by omega) b hbn
          rw [stN, stp_at hq, kid_other (by omega) (hD _ _) hne]; exact ih'
        · rw [stN, stp_other (fun a'' e => by rw [hq] at e; cases e; exact hb rfl)]; exact ih'
/-- A place that no block has stays. -/
theorem stN_none (h : Par n c par) (hD : ∀ i b, (D i b).length = 32) (h0 : ∀ j, j < n → (s0 j).length = 256) {b a : Nat} (hb : b < n) (hn : ∀ i, i < n → par i ≠ some (b, a)) {k : Nat} (hk : k ≤ n) :
    kidL (stN D par s0 k b) a = kidL (s0 b) a := by
  induction k with
  | zero => rfl
  | succ k ih =>
    have ih' := ih (by omega)
    cases hq : par k with
    | none => rw [stN, stp_other (fun a' e => by rw [hq] at e; cases e)]; exact ih'
    | some x =>
      obtain ⟨b', a'⟩ := x
      by_cases hbb : b = b'
      · subst hbb
        have hne : a ≠ a' := fun e => hn k (by omega) (by rw [hq, e])
        have ha' := (h.up k (by omega) b a' hq).2.2.2
        have hl := stN_len (D := D) h hD h0 (k := k) (by omega) b hb
        rw [stN, stp_at hq, kid_other (by omega) (hD _ _) hne]; exact ih'
      · rw [stN, stp_other (fun a'' e => by rw [hq] at e; cases e; exact hbb rfl)]; exact ih'
/-- What keeps the tree's rule is the tree, in whatever order it was made. -/
theorem tree_uniq (h : Par n c par) (hD : ∀ i b, (D i b).length = 32) (h0 : ∀ j, j < n → (s0 j).length = 256) {T : Nat → List Nat} (hl : ∀ j, j < n → (T j).length = 256) (hg : ∀ j, j < c → j < n → T j = s0 j)
    (hk : ∀ i, i < n → ∀ b a, par i = some (b, a) → kidL (T b) a = D i (T i)) (hz : ∀ b, c ≤ b → b < n → ∀ a, a < 8 → (∀ i, i < n → par i ≠ some (b, a)) → kidL (T b) a = kidL (s0 b) a) : ∀ j, j < n → T j = stN D par s0 n j := by
  intro j
  induction j using Nat.strongRecOn with
  | _ j ih =>
    intro hj
    by_cases hc : j < c
    · rw [hg j hc hj, stN_given h hc (Nat.le_refl _)]
    · refine kids_ext (hl j hj) (stN_len h hD h0 (Nat.le_refl _) j hj) (fun a ha => ?_)
      by_cases hx : ∃ i, i < n ∧ par i = some (j, a)
      · obtain ⟨i, hi, hp⟩ := hx
        have hij := (h.up i hi j a hp).1
        rw [hk i hi j a hp, stN_kid h hD h0 hi hp hi (Nat.le_refl _), ih i hij hi, stN_stays h (Nat.le_of_lt hi) (Nat.le_refl _)]
      · have hn : ∀ i, i < n → par i ≠ some (j, a) := fun i hi e => hx ⟨i, hi, e⟩
        rw [hz j (by omega) hj a ha hn, stN_none h hD h0 hj hn (Nat.le_refl _)]
end
end Go.Proofs.YtmlladpmecclbaaDoor
/- tree: a block's digest, with a log or with none. -/
namespace Go.Proofs.YtmlladpmecclbaaDoor
open Go.RowKit

/-- The lowest 32 bits of a number. -/
def u32of (x : Int) : Nat := (x % 4294967296).toNat
theorem u32of_lt (x : Int) : u32of x < 4294967296 := by unfold u32of; omega
theorem u32of_cast (x : Int) : ((u32of x : Nat) : Int) = x % 4294967296 := by unfold u32of; omega
/-- What is hashed of a block. -/
def inp (x : Int) (b : List Nat) : List Nat := (1 :: be (u32of x) 4) ++ b
theorem inp_len (x : Int) (b : List Nat) : (inp x b).length = b.length + 5 := by simp [inp, be_len]; omega
theorem inp_lt {x : Int} {b : List Nat} (h : ∀ z ∈ b, z < 256) : ∀ z ∈ inp x b, z < 256 := by
  intro z hz
  simp only [inp, List.cons_append, List.mem_cons, List.mem_append] at hz
  rcases hz with rfl | hz | hz
  · decide
  · exact be_lt _ _ z hz
  · exact h z hz
/-- A block's digest. -/
def bd (x : Int) (b : List Nat) : List Nat := digest (inp x b)
theorem bd_len (x : Int) (b : List Nat) : (bd x b).length = 32 := (digest_wf _).1
theorem bd_wf (x : Int) (b : List Nat) : wf32 (bd x b) := digest_wf _
/-- A log, or none: then what is noted goes nowhere. -/
def LgO (w : World) (own : Owner) (lv : Value) (P : List Pr) : Prop :=
  (lv = .pointer none ∧ own = fun _ => .none) ∨ ∃ gl, lv = .pointer (some ⟨gl, 0, none⟩) ∧ Lg w own gl P [] []
theorem LgO.top {w : World} {own : Owner} {lv : Value} {P : List Pr} (h : LgO w own lv P) : Top w own := by
  rcases h with ⟨_, rfl⟩ | ⟨gl, _, h⟩
  · exact fun _ _ => rfl
  · exact h.top
theorem LgO.grow {w w' : World} {own : Owner} {lv : Value} {P : List Pr} (h : LgO w own lv P) (k : Grow w w') : LgO w' own lv P := by
  rcases h with h | ⟨gl, e, h⟩
  · exact .inl h
  · exact .inr ⟨gl, e, h.but k (fun _ _ h => h)⟩
theorem LgO.but {R : Nat → Prop} {w w' : World} {own : Owner} {lv : Value} {P : List Pr} (h : LgO w own lv P) (k : But R w w') (hr : ∀ b, own b ≠ .none → ¬ R b) : LgO w' own lv P := by
  rcases h with h | ⟨gl, e, h⟩
  · exact .inl h
  · exact .inr ⟨gl, e, h.but k hr⟩
theorem LgO.none (w : World) (P : List Pr) : LgO w (fun _ => .none) (.pointer none) P := .inl ⟨rfl, rfl⟩
/-- What is left where some was noted. -/
structure LgOTo (w : World) (own : Owner) (lv : Value) (P : List Pr) (w' : World) : Prop where
  but : But (fun b => own b ≠ .none) w w'
  ex : ∃ own', Ext own own' ∧ Fresh w own own' ∧ LgO w' own' lv P
theorem LgOTo.grow {w W W' : World} {own : Owner} {lv : Value} {P : List Pr} (h : LgOTo w own lv P W) (k : Grow W W') : LgOTo w own lv P W' := by
  obtain ⟨own', h1, h2, h3⟩ := h.ex
  exact ⟨h.but.trans (k.mono (fun _ _ h => h.elim)), own', h1, h2, h3.grow k⟩
theorem LgOTo.from {w W W' : World} {own : Owner} {lv : Value} {P : List Pr} (k : Grow w W) (h : LgOTo W own lv P W') : LgOTo w own lv P W' := by
  obtain ⟨own', h1, h2, h3⟩ := h.ex
  exact ⟨(k.mono (fun b hb e => e.elim)).trans h.but, own', h1, fun b hb => Nat.le_trans k.size (h2 b hb), h3⟩
/-- A variable that was made ahead turned behind it. -/
theorem LgOTo.var {R : Nat → Prop} {w W W1 W' : World} {own : Owner} {lv : Value} {P : List Pr} (k0 : Grow w W) (h : LgOTo W own lv P W1) (k : But R W1 W') (hr : ∀ b, R b → w.heap.size ≤ b ∧ b < W.heap.size ∧ own b = .none) : LgOTo w own lv P W' := by
  obtain ⟨own', h1, h2, h3⟩ := h.ex
  refine ⟨((k0.mono (fun _ _ h => h.elim)).trans h.but).then k (fun i hi e => absurd (hr i e).1 (by omega)), own', h1, fun b hb => Nat.le_trans k0.size (h2 b hb), h3.but k (fun b hb e => ?_)⟩
  obtain ⟨q1, q2, q3⟩ := hr b e
  by_cases hq : own' b = own b
  · exact hb (by rw [hq, q3])
  · exact absurd (h2 b hq) (by omega)
theorem LgOTo.refl {w : World} {own : Owner} {lv : Value} {P : List Pr} (h : LgO w own lv P) : LgOTo w own lv P w := ⟨But.refl _ _, own, Ext.refl _, Fresh.refl _ _, h⟩
theorem hasho_any {w : World} {own : Owner} {lv : Value} {P : List Pr} {v : Value} {xss : List (List Nat)} (h : LgO w own lv P) (hv : Ps w v xss) (hk : Kw w) (hh : Hw w) (hlen : xss.flatten.length ≤ 1000000) (hx1 : 1 ≤ xss.length) (hxl : xss.length ≤ 100000) (hcap : ∀ ao n c, v = .slice ao n c → n ≤ c) (hn : P.length < 1000000) :
    Calls Tryd.prog 33 #[lv, v] w fun e w' => e = .returned (dkey (digest xss.flatten)) ∧ LgOTo w own lv (P ++ [(xss.flatten, digest xss.flatten)]) w' := by
  rcases h with ⟨rfl, rfl⟩ | ⟨gl, rfl, h⟩
  · refine (hash_nil hv hk hh hlen hxl).mono ?_
    rintro e w' ⟨rfl, hg⟩
    exact ⟨rfl, hg.mono (fun _ _ h => h.elim), _, Ext.refl _, Fresh.refl _ _, LgO.none _ _⟩
  · refine (hash_any h hv hk hh hlen hx1 hxl hcap hn).mono ?_
    rintro e w' ⟨rfl, hg⟩
    obtain ⟨own', h1, h2, h3⟩ := hg.ex
    exact ⟨rfl, hg.but, own', h1, h2, .inr ⟨gl, rfl, h3⟩⟩
/-- Two slices in a row that the text lays. -/
theorem ps2 {w : World} {u v : Value} {xs ys : List Nat} (hu : Bs w u xs) (hv : Bs w v ys) : Ps (w.alloc (.cells #[u, v] 22)) (.slice (some ⟨w.heap.size, 0, none⟩) 2 2) [xs, ys] := by
  have hk : Grow w (w.alloc (.cells #[u, v] 22)) := (But.refl _ w).alloc _
  have hb : Blk (w.alloc (.cells [u, v].toArray 22)) w.heap.size 22 [u, v] := Blk.new rfl
  refine .inr ⟨by simp, w.heap.size, 0, 2, rfl, by simp, fun i hi => ?_⟩
  have hi2 : i = 0 ∨ i = 1 := by simp at hi; omega
  rcases hi2 with rfl | rfl
  · exact ⟨u, hb.cell 0, hu.but hk (fun _ _ _ h => h)⟩
  · exact ⟨v, hb.cell 1, hv.but hk (fun _ _ _ h => h)⟩
set_option maxRecDepth 100000 in
set_option maxHeartbeats 4000000 in
theorem tdig_any {w : World} {own : Owner} {lv : Value} {P : List Pr} {v : Value} {b : List Nat} {x : Int} (h : LgO w own lv P) (hb : Bs w v b) (hk : Kw w) (hh : Hw w) (hl : b.length ≤ 900000) (hn : P.length < 1000000) :
    Calls Tryd.prog 29 #[lv, .int .i64 x, v] w fun e w' => e = .returned (dkey (bd x b)) ∧ LgOTo w own lv (P ++ [(inp x b, bd x b)]) w' := by
  obtain ⟨Z, hZ⟩ : ∃ Z, Z = u8s z32 := ⟨_, rfl⟩
  have hz := z32v
  rw [← hZ] at hz
  have HZL : Hid (Z.length = 32) := by show _ = _; rw [hZ]; rfl
  obtain ⟨g0, hg0⟩ : ∃ g, g = w.heap.size := ⟨_, rfl⟩
  obtain ⟨W0, hW0⟩ : ∃ W0, W0 = w.alloc (.cells Z.toArray 31) := ⟨_, rfl⟩
  have hT0 : Grow w W0 := by rw [hW0]; exact (But.refl _ w).alloc _
  have HR0 : Hid (Blk W0 g0 31 Z) := by show Blk _ _ _ _; rw [hW0]; exact Blk.new hg0.symm
  obtain ⟨n, hnx⟩ : ∃ n, n = u32of x := ⟨_, rfl⟩
  have hn4 : n < 4294967296 := by rw [hnx]; exact u32of_lt x
  have hw1 : IntKind.u32.wrap x = (n : Int) := by rw [hnx, u32of_cast]; rfl
  have hw2 : IntKind.u64.wrap (n : Int) = (n : Int) := by show (n : Int) % 18446744073709551616 = _; omega
  have hT1 : Grow W0 (W0.alloc (.cells #[.int .u8 1] 5)) := (But.refl _ _).alloc _
  have HP : Hid (Calls Tryd.prog 44 #[.slice (some ⟨W0.heap.size, 0, none⟩) 1 1, .int .u64 n, .int .i64 4] (W0.alloc (.cells #[.int .u8 1] 5)) fun e w' => ∃ v', e = .returned (.tuple #[v', .int .i64 0]) ∧ Ow w' (W0.alloc (.cells #[.int .u8 1] 5)).heap.size v' ([1] ++ be n 4) ∧ Below (W0.alloc (.cells #[.int .u8 1] 5)).heap.size (W0.alloc (.cells #[.int .u8 1] 5)) w') :=
    put_ok (lit1 (own := fun _ => .none) (w := W0) (fun _ _ => rfl) 1 (by decide)).1 (by decide) n 4 (by decide) (by decide) (by omega)
  have hs0 : W0.heap.size = g0 + 1 := by rw [hW0, hg0]; simp
  rw [hs0] at HP
  obtain ⟨D, hD⟩ : ∃ D, D = bd x b := ⟨_, rfl⟩
  have HDL : Hid (D.length = 32) := by show _ = _; rw [hD]; exact bd_len _ _
  rw [← hD]
  have HD := Hid.mk' hD
  have HT0 := Hid.mk' hT0
  have HT1 := Hid.mk' (hT0.trans hT1)
  have HG0 := Hid.mk' hg0
  have HW0 := Hid.mk' hW0
  have HH := Hid.mk' h
  have HB := Hid.mk' hb
  have HK := Hid.mk' hk
  have HHW := Hid.mk' hh
  have HN := Hid.mk' hn
  have HNX := Hid.mk' hnx
  have HL := Hid.mk' hl
  clear h hb hk hh hl hn hZ hg0 hW0 hT0 hnx hT1 hs0 hD
  go_enter Tryd.func29, Tryd.ntmps29
  go_wp2_with fail
  rw [← HW0.out, ← HG0.out]
  refine Calls.mono HP.out ?_
  rintro e w1 ⟨v1, rfl, ho1, hb1⟩
  have hbs1 : Bs w1 v1 ([1] ++ be n 4) := ho1.bs
  have hg1 : Grow w w1 := HT1.out.trans (But.of hb1)
  have hfl : ([[1] ++ be n 4, b].flatten) = inp x b := by rw [HNX.out]; simp [inp]
  have hfn : ([[1] ++ be n 4, b].flatten).length ≤ 1000000 := by rw [hfl, inp_len]; have := HL.out; omega
  have hgA : Grow w (w1.alloc (.cells #[v1, v] 22)) := hg1.alloc _
  have HQ : Hid (Calls Tryd.prog 33 #[lv, .slice (some ⟨w1.heap.size, 0, none⟩) 2 2] (w1.alloc (.cells #[v1, v] 22)) fun e w' => e = .returned (dkey D) ∧ LgOTo (w1.alloc (.cells #[v1, v] 22)) own lv (P ++ [(inp x b, D)]) w') := by
    have hq := hasho_any (HH.out.grow hgA) (ps2 hbs1 (HB.out.but hg1 (fun _ _ _ h => h))) (HK.out.but hgA (fun h => h)) (HHW.out.but hgA (fun h => h)) hfn (by simp) (by simp) (by rintro ao m c e; cases e; exact Nat.le_refl _) HN.out
    rw [hfl] at hq
    rw [HD.out]
    exact hq
  have HR1 := Hid.mk' ((HR0.out.but (R := fun _ => False) ((But.refl _ W0).alloc _) (fun h => h)).but (R := fun _ => False) (But.of hb1) (fun h => h))
  have HG1 := Hid.mk' hg1
  obtain ⟨a1, n1, c1, rfl⟩ := hbs1.sl
  obtain ⟨a2, n2, c2, rfl⟩ := HB.out.sl
  clear hbs1 hb1 ho1 hg1 HP hw1 hw2 HB
  go_wp2_with fail
  refine Calls.mono HQ.out ?_
  rintro e w2 ⟨rfl, hl2⟩
  have HG0N : Hid (own g0 = .none) := HH.out.top g0 (by have := HG0.out; omega)
  have hgA : Grow w (w1.alloc (.cells #[.slice a1 n1 c1, .slice a2 n2 c2] 22)) := HG1.out.alloc _
  have HL2 := Hid.mk' hl2
  have HGA := Hid.mk' hgA
  have HSZ : Hid (g0 < (w1.alloc (.cells #[.slice a1 n1 c1, .slice a2 n2 c2] 22)).heap.size) := by have := HR1.out.lt; show _ < _; simp; omega
  have HR2 := Hid.mk' ((HR1.out.but (R := fun _ => False) ((But.refl _ w1).alloc _) (fun h => h)).but hl2.but (fun e => e HG0N.out))
  clear hl2 HQ HH HR0 HR1 hgA
  go_wp2_with (first
    | (refine wpList_store_u8s i32 rfl _ _ rfl g0 D HDL.out rfl rfl Z HZL.out HR2.out ?_; intro W9 hb9 hbut9)
    | fail)
  refine bodyPost_ret (results_cell_row rfl _ _ g0 _ _ _ _ rfl hb9 ukt rfl (by rw [i32]; simp [HDL.out])) rfl ⟨rfl, ?_⟩
  exact LgOTo.var HGA.out HL2.out hbut9 (fun b e => by rw [e]; exact ⟨by rw [HG0.out]; exact Nat.le_refl _, HSZ.out, HG0N.out⟩)
end Go.Proofs.YtmlladpmecclbaaDoor
/- The reference's Join. -/
namespace Go.Proofs.YtmlladpmecclbaaDoor
open Go.RowKit

/-- append, by what it was seen to give. -/
theorem wpList_append_seen {w w' : World} {ops : Array Oper} {rest : List Oper} {o : Oper} {a : Act} {Q : Exit → Act → World → Prop} (hgd : o.guard = none) (s x : Operand) (t : TypeId)
    (ho : o.op = .call { callee := .builtin .append, args := #[s, x], argTypes := #[t, t] }) (vs vx : Value) (hs : a.eval s = vs) (hx : a.eval x = vx) {v' : Value}
    (hr : (Builtin.append_ #[t, t] o.type #[vs, vx]).run Tryd.prog w = .ok v' w')
    (h : wpList Tryd.prog ops Q rest (a.put o.dst v') w') : wpList Tryd.prog ops Q (o :: rest) a w :=
  wpList_plain hgd fun _ hK => by
    unfold Oper.wp execOp
    simp only [ho, resolve, invoke, builtin, Sem.run_bind, Sem.run_pure, Result.andThen_ok, List.map_toArray, List.map_cons, List.map_nil, hs, hx, hr]
    exact hK _ _ h

/-- Bytes behind bytes that are the call's own. -/
theorem append_bytes {w : World} {base : Nat} {v u : Value} {zs ys : List Nat} (ty : TypeId) (hv : Ow w base v zs) (hu : Bs w u ys) (hl : zs.length + ys.length ≤ 140737488355328) (hb : base ≤ w.heap.size) :
    ∃ v' w', (Builtin.append_ #[22, 22] ty #[v, u]).run Tryd.prog w = .ok v' w' ∧ Ow w' base v' (zs ++ ys) ∧ w.grownBy w' v.ownBlock := by
  obtain ⟨i0, hi, hz0, hz1, hz2⟩ := info_parts u8info
  have hlt : ∀ z ∈ zs ++ ys, z < 256 := by
    intro z hz
    rcases List.mem_append.1 hz with h | h
    · exact hv.lt z h
    · exact hu.1 z h
  obtain ⟨ao, cap, rfl, hnone, hcells⟩ := hu.gen
  cases ao with
  | none =>
    have hy : ys = [] := List.eq_nil_of_length_eq_zero (hnone rfl).1
    subst hy
    obtain rfl : cap = 0 := (hnone rfl).2
    have hr := run_append_owned_none (P := Tryd.prog) w base 22 ty 5 i0 1 Tryd.underlying22 hi _ zs.length (u8s zs) hv.own
    exact ⟨v, w, hr, by simpa using hv, World.grownBy.refl _ _⟩
  | some ad =>
    obtain ⟨v', w', hr, ho, hg, _⟩ := run_append_own (P := Tryd.prog) w base 22 ty 5 i0 _ 1 1 Tryd.underlying22 hi hz0 hz1 hz2 rfl (by decide) v zs.length (u8s zs) hv.own ad ys.length cap (u8s ys) (by simp [u8s]) (hcells ad rfl) (u8s_one _) (by unfold maxLen; omega) (by omega) hb
    refine ⟨v', w', hr, ⟨hlt, by simp; omega, ?_⟩, hg⟩
    rw [List.length_append, u8s_append]; exact ho

set_option maxRecDepth 100000 in
set_option maxHeartbeats 1000000 in
theorem rjoin_any {w : World} {p : Value} {xss : List (List Nat)} (hp : Ps w p xss) (hl : xss.flatten.length ≤ 1048576) (hx : xss.length ≤ 140737488351232) :
    Calls Tryd.prog 20 #[p] w fun e w' => ∃ v', e = .returned v' ∧ Ow w' w.heap.size v' xss.flatten ∧ Below w.heap.size w w' := by
  obtain ⟨ao, cap, rfl, hps⟩ := hp.gen
  have HPS := Hid.mk' hps
  obtain ⟨n, hn⟩ : ∃ n, n = xss.length := ⟨_, rfl⟩
  obtain ⟨F, hF⟩ : ∃ F : Nat → List Nat, F = fun k => (xss.take k).flatten := ⟨_, rfl⟩
  obtain ⟨G, hG⟩ : ∃ G : Nat → List Nat, G = fun k => xss.getD k [] := ⟨_, rfl⟩
  have HF : Hid (∀ k, k < n → F (k + 1) = F k ++ G k) := by rw [hF, hG]; intro k hk; exact flat_next xss k (by omega)
  have HF0 : Hid (F 0 = []) := by rw [hF]; rfl
  have HFE : Hid (F n = xss.flatten) := by show _ = _; rw [hF, hn]; simp
  have HFB : Hid (∀ k, (F k).length ≤ 1048576) := by rw [hF]; intro k; exact Nat.le_trans (flat_le xss k) hl
  have HPG : Hid (0 < n → ∃ b off, ao = some ⟨b, off, none⟩ ∧ b < w.heap.size ∧ ∀ i, i < n → ∃ u, w.cell? ⟨b, off + i, none⟩ = some u ∧ Bs w u (G i)) := by rw [hn, hG]; exact HPS.out
  rw [← hn, ← HFE.out]
  rw [← hn] at hx
  clear hp hps HPS hF hG HFE hn hl
  go_enter Tryd.func20, Tryd.ntmps20
  go_wp2
  go_loopw [3, 4] (fun s i wr => ∃ k : Nat, k ≤ n ∧ i = .int .i64 k ∧ Ow wr w.heap.size s (F k) ∧ Below w.heap.size w wr) (fun _ i _ => n - (intOf i).toNat)
  case atStart => exact ⟨0, Nat.zero_le _, rfl, by rw [HF0.out]; exact Ow.nil _ _, Below.refl _ _⟩
  case round =>
    obtain ⟨k, hkn, rfl, ho, hbel⟩ := hrel
    have hsz := hbel.size
    by_cases hlt : k < n
    · have hlti : (k : Int) < (n : Int) := by omega
      obtain ⟨b, off, rfl, hb, hc⟩ := HPG.out (by omega)
      obtain ⟨u, hu, hbs⟩ := hc k hlt
      have hu' : wr.cell? ⟨b, off + k, none⟩ = some u := (hbel.cell (by exact hb)).trans hu
      have hbs' : Bs wr u (G k) := hbs.below hbel
      have hlen := HFB.out (k + 1)
      rw [HF.out k hlt, List.length_append] at hlen
      obtain ⟨v', w', hr, hown, hgr⟩ := append_bytes 22 ho hbs' (by omega) hsz
      rw [← HF.out k hlt] at hown
      have HR := Hid.mk' hr
      have HOW := Hid.mk' hown
      have HB : Hid (Below w.heap.size w w') := hbel.grown hgr (by omega) (fun j hj => (ho.ge j hj).1)
      obtain ⟨au, cu, rfl, -, -⟩ := hbs.gen
      clear hu hbs hbs' hlen hc hr hown hgr hbel ho
      go_wp2_with (at_builtin; refine wpList_append_seen rfl _ _ 22 rfl _ _ rfl rfl HR.out ?_)
      refine ⟨⟨k + 1, by omega, by go_num, HOW.out, HB.out⟩, by simp [intOf]; omega⟩
    · have hge : ¬ ((k : Int) < (n : Int)) := by omega
      obtain rfl : k = n := by omega
      go_wp2
      go_ret
      exact ⟨_, rfl, ho, hbel⟩
end Go.Proofs.YtmlladpmecclbaaDoor
/- journal: Mark; the reference's Mark. -/
-- REFOF
namespace Go.Proofs.YtmlladpmecclbaaDoor
open Go.RowKit

/-- What a mark is made of. -/
def mkI (xs ys : List (List Nat)) : List Nat := 2 :: (xs.flatten ++ ys.flatten)
theorem mkI_len (xs ys : List (List Nat)) : (mkI xs ys).length = 1 + xs.flatten.length + ys.flatten.length := by simp [mkI]; omega
/-- The three rows of Mark, amid its call. -/
structure MkW (w : World) (Z : List Value) (hv iv : Value) (W W4 : World) (g : Nat) : Prop where
  ew : W = w.alloc (.cells Z.toArray 31)
  e4 : W4 = ((W.alloc (.cells #[.int .u8 2] 5)).alloc (.cells #[.slice (some ⟨g + 1, 0, none⟩) 1 1] 22)).alloc (.cells #[.slice (some ⟨g + 1 + 1, 0, none⟩) 1 1, hv, iv] 26)
  eg : g = w.heap.size
  grow : Grow w W
  grow4 : Grow W W4
  var : Blk W g 31 Z
theorem mk_begin (w : World) (Z : List Value) (hv iv : Value) : ∃ W W4 g, MkW w Z hv iv W W4 g :=
  ⟨_, _, _, rfl, rfl, rfl, (But.refl _ w).alloc _, (((But.refl _ _).alloc _).alloc _).alloc _, Blk.new rfl⟩
theorem MkW.rows {w : World} {Z : List Value} {hv iv : Value} {W W4 : World} {g : Nat} {xs ys : List (List Nat)} (h : MkW w Z hv iv W W4 g) (hh : Ps w hv xs) (hj : Ps w iv ys) (hl : xs.length ≤ 20000) (hl2 : ys.length ≤ 20000) :
    ∀ i, i < 3 → W4.cell? ⟨g + 1 + 1 + 1, i, none⟩ = some (([.slice (some ⟨g + 1 + 1, 0, none⟩) 1 1, hv, iv] : List Value).getD i undef) ∧ Ps W4 (([.slice (some ⟨g + 1 + 1, 0, none⟩) 1 1, hv, iv] : List Value).getD i undef) (([[[2]], xs, ys] : List (List (List Nat))).getD i []) ∧ (([[[2]], xs, ys] : List (List (List Nat))).getD i []).length ≤ 20000 := by
  have hg4 := h.grow.trans h.grow4
  have hs0 : W.heap.size = g + 1 := by rw [h.ew, h.eg]; simp
  have hb1 : Blk (W.alloc (.cells #[.int .u8 2] 5)) (g + 1) 5 (u8s [2]) := Blk.new (L := u8s [2]) hs0
  have hb2 : Blk ((W.alloc (.cells #[.int .u8 2] 5)).alloc (.cells #[.slice (some ⟨g + 1, 0, none⟩) 1 1] 22)) (g + 1 + 1) 22 [.slice (some ⟨g + 1, 0, none⟩) 1 1] := Blk.new (L := [.slice (some ⟨g + 1, 0, none⟩) 1 1]) (by simp [hs0])
  have hb3 : Blk W4 (g + 1 + 1 + 1) 26 [.slice (some ⟨g + 1 + 1, 0, none⟩) 1 1, hv, iv] := by rw [h.e4]; exact Blk.new (L := [.slice (some ⟨g + 1 + 1, 0, none⟩) 1 1, hv, iv]) (by simp [hs0])
  have hk2 : Grow ((W.alloc (.cells #[.int .u8 2] 5)).alloc (.cells #[.slice (some ⟨g + 1, 0, none⟩) 1 1] 22)) W4 := by rw [h.e4]; exact (But.refl _ _).alloc _
  have hk1 : Grow (W.alloc (.cells #[.int .u8 2] 5)) W4 := ((But.refl _ _).alloc _).trans hk2
  have hb24 := hb2.but hk2 (fun h => h)
  have hb14 := hb1.but hk1 (fun h => h)
  have hbs : Bs W4 (.slice (some ⟨g + 1, 0, none⟩) 1 1) [2] := ⟨by simp, by simp, .inr ⟨by simp, g + 1, 0, 1, rfl, by simp, hb14.lt, fun i hi => by
    obtain rfl : i = 0 := by simp at hi; omega
    exact hb14.cell 0⟩⟩
  intro i hi
  refine ⟨?_, ?_, ?_⟩
  · rw [hb3.cell]
    have : i = 0 ∨ i = 1 ∨ i = 2 := by omega
    rcases this with rfl | rfl | rfl <;> rfl
  · have : i = 0 ∨ i = 1 ∨ i = 2 := by omega
    rcases this with rfl | rfl | rfl
    · exact .inr ⟨by simp, g + 1 + 1, 0, 1, rfl, hb24.lt, fun j hj => by
        obtain rfl : j = 0 := by simp at hj; omega
        exact ⟨_, hb24.cell 0, hbs⟩⟩
    · exact hh.below hg4
    · exact hj.below hg4
  · have : i = 0 ∨ i = 1 ∨ i = 2 := by omega
    rcases this with rfl | rfl | rfl
    · simp
    · exact hl
    · exact hl2
set_option maxRecDepth 100000 in
set_option maxHeartbeats 4000000 in
theorem jmark_any {w : World} {own : Owner} {lv hv iv : Value} {P : List Pr} {xs ys : List (List Nat)} (h : LgO w own lv P) (hh : Ps w hv xs) (hi : Ps w iv ys) (hk : Kw w) (hw : Hw w) (hl : xs.flatten.length + xs.length ≤ 20000) (hl2 : ys.flatten.length + ys.length ≤ 20000) (hn : P.length < 1000000) :
    Calls Tryd.prog 16 #[lv, hv, iv] w fun e w' => e = .returned (dkey (digest (mkI xs ys))) ∧ LgOTo w own lv (P ++ [(mkI xs ys, digest (mkI xs ys))]) w' := by
  obtain ⟨Z, hZ⟩ : ∃ Z, Z = u8s z32 := ⟨_, rfl⟩
  have hz := z32v
  rw [← hZ] at hz
  have HZL : Hid (Z.length = 32) := by show _ = _; rw [hZ]; rfl
  obtain ⟨W, W4, g, hm⟩ := mk_begin w Z hv iv
  have hrow := hm.rows hh hi (by omega) (by omega)
  have hcc := concat_any (w := W4) (g := g + 1 + 1 + 1) (V := fun i => ([.slice (some ⟨g + 1 + 1, 0, none⟩) 1 1, hv, iv] : List Value).getD i undef) (X := fun i => ([[[2]], xs, ys] : List (List (List Nat))).getD i []) hrow
  rw [show catN (fun i => ([[[2]], xs, ys] : List (List (List Nat))).getD i []) 3 = ([] ++ [[2]] ++ xs ++ ys) from rfl] at hcc
  have HCC := Hid.mk' hcc
  have hfl : ([] ++ [[2]] ++ xs ++ ys).flatten = mkI xs ys := by simp [mkI]
  have hfn : ([] ++ [[2]] ++ xs ++ ys).flatten.length ≤ 1000000 := by rw [hfl, mkI_len]; omega
  have hln : ([] ++ [[2]] ++ xs ++ ys).length ≤ 100000 := by simp; omega
  have hl1 : 1 ≤ ([] ++ [[2]] ++ xs ++ ys).length := by simp
  generalize ([] ++ [[2]] ++ xs ++ ys) = XS at HCC hfl hfn hln hl1
  have HFL := Hid.mk' hfl
  obtain ⟨D, hD⟩ : ∃ D, D = digest (mkI xs ys) := ⟨_, rfl⟩
  have HDL : Hid (D.length = 32) := by show _ = _; rw [hD]; exact (digest_wf _).1
  rw [← hD]
  have HD := Hid.mk' hD
  have HH4 := Hid.mk' (h.grow (hm.grow.trans hm.grow4))
  have HTOP := Hid.mk' h.top
  have HK := Hid.mk' hk
  have HHW := Hid.mk' hw
  have HN := Hid.mk' hn
  have HEW := Hid.mk' hm.ew
  have HE4 := Hid.mk' hm.e4
  have HEG := Hid.mk' hm.eg
  have HG := Hid.mk' hm.grow
  have HG4 := Hid.mk' hm.grow4
  have HVAR := Hid.mk' hm.var
  have hs0 : W.heap.size = g + 1 := by rw [hm.ew, hm.eg]; simp
  have HS0 := Hid.mk' hs0
  obtain ⟨ha, hn', hc, rfl⟩ : ∃ a n c, hv = .slice a n c := by obtain ⟨a, c, e, _⟩ := hh.gen; exact ⟨a, _, c, e⟩
  obtain ⟨ia, in', ic, rfl⟩ : ∃ a n c, iv = .slice a n c := by obtain ⟨a, c, e, _⟩ := hi.gen; exact ⟨a, _, c, e⟩
  clear h hh hi hk hw hl hl2 hn hZ hm hrow hcc hfl hD
  go_enter Tryd.func16, Tryd.ntmps16
  go_upto_region 1 with fail
  rw [← HEW.out, ← HEG.out]
  go_wp2_with fail
  rw [← HE4.out]
  refine Calls.mono HCC.out ?_
  rintro e w5 ⟨v5, rfl, hps5, hcp5, hg5⟩
  have HG5 := Hid.mk' ((HG.out.trans HG4.out).trans hg5)
  have HQ : Hid (Calls Tryd.prog 33 #[lv, v5] w5 fun e w' => e = .returned (dkey D) ∧ LgOTo w5 own lv (P ++ [(mkI xs ys, D)]) w') := by
    have hq := hasho_any (HH4.out.grow hg5) hps5 (HK.out.but HG5.out (fun h => h)) (HHW.out.but HG5.out (fun h => h)) hfn hl1 hln hcp5 HN.out
    rw [HFL.out] at hq
    rw [HD.out]
    exact hq
  obtain ⟨a5, c5, rfl, -⟩ := hps5.gen
  have HR1 := Hid.mk' ((HVAR.out.but HG4.out (fun h => h)).but hg5 (fun h => h))
  clear hps5 hcp5 hg5 HCC hfn hln hl1
  go_wp2_with fail
  refine Calls.mono HQ.out ?_
  rintro e w2 ⟨rfl, hl2⟩
  have HG0N : Hid (own g = .none) := HTOP.out g (by have := HEG.out; omega)
  have HL2 := Hid.mk' hl2
  have HSZ : Hid (g < w5.heap.size) := HR1.out.lt
  have HR2 := Hid.mk' (HR1.out.but hl2.but (fun e => e HG0N.out))
  clear hl2 HQ HH4 HR1 HVAR
  go_wp2_with (first
    | (refine wpList_store_u8s i32 rfl _ _ rfl g D HDL.out rfl rfl Z HZL.out HR2.out ?_; intro W9 hb9 hbut9)
    | fail)
  refine bodyPost_ret (results_cell_row rfl _ _ g _ _ _ _ rfl hb9 ukt rfl (by rw [i32]; simp [HDL.out])) rfl ⟨rfl, ?_⟩
  exact LgOTo.var HG5.out HL2.out hbut9 (fun b e => by rw [e]; exact ⟨by rw [HEG.out]; exact Nat.le_refl _, HSZ.out, HG0N.out⟩)
end Go.Proofs.YtmlladpmecclbaaDoor
