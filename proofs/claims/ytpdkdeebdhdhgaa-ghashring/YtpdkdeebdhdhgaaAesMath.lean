/- A block cipher over bytes of the field: words of a key, states, and the way back. -/
import Derived.Test.YtpdkdeebdhdhgaaFieldTimes
namespace Go.Proofs.Ytpdkdeebdhdhgaa
open Go.RowKit

/-- Bytes as numbers. -/
def nts (l : List B8) : List Nat := l.map b8
theorem nts_len (l : List B8) : (nts l).length = l.length := by simp [nts]
theorem nts_lt (l : List B8) : ∀ z ∈ nts l, z < 256 := by
  intro z hz
  obtain ⟨x, _, rfl⟩ := List.mem_map.1 hz
  exact b8_lt x
/-- The byte i of a list. -/
def at8 (l : List B8) (i : Nat) : B8 := l.getD i 0
theorem nts_at (l : List B8) (i : Nat) (h : i < l.length) : (nts l)[i]? = some (b8 (at8 l i)) := by
  simp [nts, at8, List.getD, h]
def mk16 (f : Nat → B8) : List B8 := (List.range 16).map f
theorem mk16_len (f : Nat → B8) : (mk16 f).length = 16 := by simp [mk16]
theorem mk16_at (f : Nat → B8) (i : Nat) (h : i < 16) : at8 (mk16 f) i = f i := by simp [mk16, at8, List.getD, h]
theorem at8_ext {a b : List B8} (ha : a.length = 16) (hb : b.length = 16) (h : ∀ i, i < 16 → at8 a i = at8 b i) : a = b := by
  apply List.ext_getElem (by omega)
  intro i h1 h2
  have := h i (by omega)
  simpa [at8, List.getD, h1, h2] using this
theorem mk16_eta {a : List B8} (ha : a.length = 16) : mk16 (at8 a) = a := at8_ext (mk16_len _) ha (fun i hi => mk16_at _ i hi)

/-- A state xor the key of a round. -/
def addK (W : List (List B8)) (r : Nat) (b : List B8) : List B8 := mk16 fun i => at8 b i ^^^ at8 (W.getD (4 * r + i / 4) []) (i % 4)
/-- Each byte its box, the rows turned. -/
def subs (b : List B8) : List B8 := mk16 fun i => bx (at8 b (4 * ((i / 4 + i % 4) % 4) + i % 4))
def unsubs (b : List B8) : List B8 := mk16 fun i => bk (at8 b (4 * ((i / 4 + (4 - i % 4)) % 4) + i % 4))
/-- A column by four factors, turned from row to row. -/
def mixSum (f b : List B8) (i : Nat) : Nat → B8
  | 0 => 0
  | j + 1 => mixSum f b i j ^^^ tm (at8 f ((j + 4 - i % 4) % 4)) (at8 b (4 * (i / 4) + j))
def mixBy (f b : List B8) : List B8 := mk16 fun i => mixSum f b i 4
def fwd : List B8 := [2#8, 3#8, 1#8, 1#8]
def rev : List B8 := [14#8, 11#8, 13#8, 9#8]

/-- The state behind round r, of rounds 0 to last. -/
def encR (W : List (List B8)) (last : Nat) (b : List B8) : Nat → List B8
  | 0 => addK W 0 b
  | r + 1 => addK W (r + 1) (if r + 1 < last then mixBy fwd (subs (encR W last b r)) else subs (encR W last b r))
def enc (W : List (List B8)) (b : List B8) : List B8 := encR W (W.length / 4 - 1) b (W.length / 4 - 1)
/-- One round led back. -/
def decStep (W : List (List B8)) (last r : Nat) (b : List B8) : List B8 := unsubs (if r < last then mixBy rev (addK W r b) else addK W r b)
/-- The state behind n rounds led back, from the last one. -/
def decR (W : List (List B8)) (last : Nat) (b : List B8) : Nat → List B8
  | 0 => b
  | n + 1 => decStep W last (last - n) (decR W last b n)
def dec (W : List (List B8)) (b : List B8) : List B8 := addK W 0 (decR W (W.length / 4 - 1) b (W.length / 4 - 1))

theorem addK_len (W : List (List B8)) (r : Nat) (b : List B8) : (addK W r b).length = 16 := mk16_len _
theorem subs_len (b : List B8) : (subs b).length = 16 := mk16_len _
theorem unsubs_len (b : List B8) : (unsubs b).length = 16 := mk16_len _
theorem mixBy_len (f b : List B8) : (mixBy f b).length = 16 := mk16_len _
theorem encR_len (W : List (List B8)) (last : Nat) (b : List B8) (r : Nat) : (encR W last b r).length = 16 := by
  cases r <;> exact addK_len _ _ _
theorem addK_addK (W : List (List B8)) (r : Nat) (b : List B8) (hb : b.length = 16) : addK W r (addK W r b) = b := by
  refine at8_ext (addK_len _ _ _) hb (fun i hi => ?_)
  unfold addK
  rw [mk16_at _ i hi, mk16_at _ i hi, BitVec.xor_assoc, BitVec.xor_self, BitVec.xor_zero]
theorem idx1 : ∀ i, i < 16 → (4 * ((i / 4 + (4 - i % 4)) % 4) + i % 4 < 16) ∧ (4 * ((i / 4 + i % 4) % 4) + i % 4 < 16) ∧
    (4 * (((4 * ((i / 4 + (4 - i % 4)) % 4) + i % 4) / 4 + (4 * ((i / 4 + (4 - i % 4)) % 4) + i % 4) % 4) % 4) + (4 * ((i / 4 + (4 - i % 4)) % 4) + i % 4) % 4 = i) ∧
    (4 * (((4 * ((i / 4 + i % 4) % 4) + i % 4) / 4 + (4 - (4 * ((i / 4 + i % 4) % 4) + i % 4) % 4)) % 4) + (4 * ((i / 4 + i % 4) % 4) + i % 4) % 4 = i) := by decide
theorem unsubs_subs (b : List B8) (hb : b.length = 16) : unsubs (subs b) = b := by
  refine at8_ext (unsubs_len _) hb (fun i hi => ?_)
  obtain ⟨h1, _, h3, _⟩ := idx1 i hi
  unfold unsubs subs
  rw [mk16_at _ i hi, mk16_at _ _ h1, bk_bx, h3]
theorem subs_unsubs (b : List B8) (hb : b.length = 16) : subs (unsubs b) = b := by
  refine at8_ext (subs_len _) hb (fun i hi => ?_)
  obtain ⟨_, h2, _, h4⟩ := idx1 i hi
  unfold unsubs subs
  rw [mk16_at _ i hi, mk16_at _ _ h2, bx_bk, h4]

/-- A column of four bytes by four factors: its byte r. -/
def colBy (f0 f1 f2 f3 a0 a1 a2 a3 : B8) : B8 := tm f0 a0 ^^^ tm f1 a1 ^^^ tm f2 a2 ^^^ tm f3 a3
theorem mixBy_at (f b : List B8) (c : Nat) (hc : c < 4) :
    at8 (mixBy f b) (4 * c) = colBy (at8 f 0) (at8 f 1) (at8 f 2) (at8 f 3) (at8 b (4 * c)) (at8 b (4 * c + 1)) (at8 b (4 * c + 2)) (at8 b (4 * c + 3)) ∧
    at8 (mixBy f b) (4 * c + 1) = colBy (at8 f 3) (at8 f 0) (at8 f 1) (at8 f 2) (at8 b (4 * c)) (at8 b (4 * c + 1)) (at8 b (4 * c + 2)) (at8 b (4 * c + 3)) ∧
    at8 (mixBy f b) (4 * c + 2) = colBy (at8 f 2) (at8 f 3) (at8 f 0) (at8 f 1) (at8 b (4 * c)) (at8 b (4 * c + 1)) (at8 b (4 * c + 2)) (at8 b (4 * c + 3)) ∧
    at8 (mixBy f b) (4 * c + 3) = colBy (at8 f 1) (at8 f 2) (at8 f 3) (at8 f 0) (at8 b (4 * c)) (at8 b (4 * c + 1)) (at8 b (4 * c + 2)) (at8 b (4 * c + 3)) := by
  have e : ∀ r, r < 4 → (4 * c + r) / 4 = c ∧ (4 * c + r) % 4 = r := fun r hr => by omega
  unfold mixBy colBy
  refine ⟨?_, ?_, ?_, ?_⟩
  · rw [mk16_at _ _ (by omega)]
    have := e 0 (by decide)
    simp only [Nat.add_zero] at this
    simp [mixSum, this.1]
  · rw [mk16_at _ _ (by omega)]
    have := e 1 (by decide)
    simp [mixSum, this.1, this.2]
  · rw [mk16_at _ _ (by omega)]
    have := e 2 (by decide)
    simp [mixSum, this.1, this.2]
  · rw [mk16_at _ _ (by omega)]
    have := e 3 (by decide)
    simp [mixSum, this.1, this.2]
/-- What leads back: by factors whose products with the others are one at one place and nothing at the others. -/
theorem col_back (f0 f1 f2 f3 g0 g1 g2 g3 : B8) (a0 a1 a2 a3 : B8)
    (e0 : tm g0 f0 ^^^ tm g1 f3 ^^^ tm g2 f2 ^^^ tm g3 f1 = 1#8) (e1 : tm g0 f1 ^^^ tm g1 f0 ^^^ tm g2 f3 ^^^ tm g3 f2 = 0#8)
    (e2 : tm g0 f2 ^^^ tm g1 f1 ^^^ tm g2 f0 ^^^ tm g3 f3 = 0#8) (e3 : tm g0 f3 ^^^ tm g1 f2 ^^^ tm g2 f1 ^^^ tm g3 f0 = 0#8) :
    colBy g0 g1 g2 g3 (colBy f0 f1 f2 f3 a0 a1 a2 a3) (colBy f3 f0 f1 f2 a0 a1 a2 a3) (colBy f2 f3 f0 f1 a0 a1 a2 a3) (colBy f1 f2 f3 f0 a0 a1 a2 a3) = a0 := by
  unfold colBy
  simp only [tm_add, tm_assoc]
  have h0 : tm (tm g0 f0) a0 ^^^ tm (tm g1 f3) a0 ^^^ tm (tm g2 f2) a0 ^^^ tm (tm g3 f1) a0 = a0 := by
    rw [← tm_left a0, ← tm_left a0, ← tm_left a0, e0]; exact one_tm a0
  have h1 : tm (tm g0 f1) a1 ^^^ tm (tm g1 f0) a1 ^^^ tm (tm g2 f3) a1 ^^^ tm (tm g3 f2) a1 = 0#8 := by
    rw [← tm_left a1, ← tm_left a1, ← tm_left a1, e1]; exact zero_tm a1
  have h2 : tm (tm g0 f2) a2 ^^^ tm (tm g1 f1) a2 ^^^ tm (tm g2 f0) a2 ^^^ tm (tm g3 f3) a2 = 0#8 := by
    rw [← tm_left a2, ← tm_left a2, ← tm_left a2, e2]; exact zero_tm a2
  have h3 : tm (tm g0 f3) a3 ^^^ tm (tm g1 f2) a3 ^^^ tm (tm g2 f1) a3 ^^^ tm (tm g3 f0) a3 = 0#8 := by
    rw [← tm_left a3, ← tm_left a3, ← tm_left a3, e3]; exact zero_tm a3
  have hs : ∀ p0 p1 p2 p3 q0 q1 q2 q3 r0 r1 r2 r3 s0 s1 s2 s3 : B8, (p0 ^^^ p1 ^^^ p2 ^^^ p3) ^^^ (q0 ^^^ q1 ^^^ q2 ^^^ q3) ^^^ (r0 ^^^ r1 ^^^ r2 ^^^ r3) ^^^ (s0 ^^^ s1 ^^^ s2 ^^^ s3) = (p0 ^^^ q0 ^^^ r0 ^^^ s0) ^^^ (p1 ^^^ q1 ^^^ r1 ^^^ s1) ^^^ (p2 ^^^ q2 ^^^ r2 ^^^ s2) ^^^ (p3 ^^^ q3 ^^^ r3 ^^^ s3) := by
    intros; ac_rfl
  rw [hs, h0, h1, h2, h3]
  simp
theorem cols_ext {a b : List B8} (ha : a.length = 16) (hb : b.length = 16) (h : ∀ c, c < 4 → at8 a (4 * c) = at8 b (4 * c) ∧ at8 a (4 * c + 1) = at8 b (4 * c + 1) ∧ at8 a (4 * c + 2) = at8 b (4 * c + 2) ∧ at8 a (4 * c + 3) = at8 b (4 * c + 3)) : a = b := by
  refine at8_ext ha hb (fun i hi => ?_)
  obtain ⟨h0, h1, h2, h3⟩ := h (i / 4) (by omega)
  have hr : i % 4 = 0 ∨ i % 4 = 1 ∨ i % 4 = 2 ∨ i % 4 = 3 := by omega
  rcases hr with hr | hr | hr | hr
  · rwa [show 4 * (i / 4) = i by omega] at h0
  · rwa [show 4 * (i / 4) + 1 = i by omega] at h1
  · rwa [show 4 * (i / 4) + 2 = i by omega] at h2
  · rwa [show 4 * (i / 4) + 3 = i by omega] at h3
theorem ct1 (f0 f1 f2 f3 a0 a1 a2 a3 : B8) : colBy f0 f1 f2 f3 a0 a1 a2 a3 = colBy f1 f2 f3 f0 a1 a2 a3 a0 := by unfold colBy; ac_rfl
theorem col_back1 (f0 f1 f2 f3 g0 g1 g2 g3 : B8) (h : ∀ a0 a1 a2 a3 : B8, colBy g0 g1 g2 g3 (colBy f0 f1 f2 f3 a0 a1 a2 a3) (colBy f3 f0 f1 f2 a0 a1 a2 a3) (colBy f2 f3 f0 f1 a0 a1 a2 a3) (colBy f1 f2 f3 f0 a0 a1 a2 a3) = a0) (a0 a1 a2 a3 : B8) :
    colBy g3 g0 g1 g2 (colBy f0 f1 f2 f3 a0 a1 a2 a3) (colBy f3 f0 f1 f2 a0 a1 a2 a3) (colBy f2 f3 f0 f1 a0 a1 a2 a3) (colBy f1 f2 f3 f0 a0 a1 a2 a3) = a1 ∧
    colBy g2 g3 g0 g1 (colBy f0 f1 f2 f3 a0 a1 a2 a3) (colBy f3 f0 f1 f2 a0 a1 a2 a3) (colBy f2 f3 f0 f1 a0 a1 a2 a3) (colBy f1 f2 f3 f0 a0 a1 a2 a3) = a2 ∧
    colBy g1 g2 g3 g0 (colBy f0 f1 f2 f3 a0 a1 a2 a3) (colBy f3 f0 f1 f2 a0 a1 a2 a3) (colBy f2 f3 f0 f1 a0 a1 a2 a3) (colBy f1 f2 f3 f0 a0 a1 a2 a3) = a3 := by
  have step : ∀ g0 g1 g2 g3 a0 a1 a2 a3 : B8, colBy g3 g0 g1 g2 (colBy f0 f1 f2 f3 a0 a1 a2 a3) (colBy f3 f0 f1 f2 a0 a1 a2 a3) (colBy f2 f3 f0 f1 a0 a1 a2 a3) (colBy f1 f2 f3 f0 a0 a1 a2 a3) =
      colBy g0 g1 g2 g3 (colBy f0 f1 f2 f3 a1 a2 a3 a0) (colBy f3 f0 f1 f2 a1 a2 a3 a0) (colBy f2 f3 f0 f1 a1 a2 a3 a0) (colBy f1 f2 f3 f0 a1 a2 a3 a0) := by
    intro g0 g1 g2 g3 a0 a1 a2 a3
    rw [← ct1 f3 f0 f1 f2 a0 a1 a2 a3, ← ct1 f2 f3 f0 f1 a0 a1 a2 a3, ← ct1 f1 f2 f3 f0 a0 a1 a2 a3, ← ct1 f0 f1 f2 f3 a0 a1 a2 a3]
    exact ct1 _ _ _ _ _ _ _ _
  refine ⟨(step _ _ _ _ _ _ _ _).trans (h _ _ _ _), ?_, ?_⟩
  · exact (step _ _ _ _ _ _ _ _).trans ((step _ _ _ _ _ _ _ _).trans (h _ _ _ _))
  · exact (step _ _ _ _ _ _ _ _).trans ((step _ _ _ _ _ _ _ _).trans ((step _ _ _ _ _ _ _ _).trans (h _ _ _ _)))
/-- Factors that lead one another back. -/
theorem mix_back (f g b : List B8) (hb : b.length = 16)
    (e0 : tm (at8 g 0) (at8 f 0) ^^^ tm (at8 g 1) (at8 f 3) ^^^ tm (at8 g 2) (at8 f 2) ^^^ tm (at8 g 3) (at8 f 1) = 1#8) (e1 : tm (at8 g 0) (at8 f 1) ^^^ tm (at8 g 1) (at8 f 0) ^^^ tm (at8 g 2) (at8 f 3) ^^^ tm (at8 g 3) (at8 f 2) = 0#8)
    (e2 : tm (at8 g 0) (at8 f 2) ^^^ tm (at8 g 1) (at8 f 1) ^^^ tm (at8 g 2) (at8 f 0) ^^^ tm (at8 g 3) (at8 f 3) = 0#8) (e3 : tm (at8 g 0) (at8 f 3) ^^^ tm (at8 g 1) (at8 f 2) ^^^ tm (at8 g 2) (at8 f 1) ^^^ tm (at8 g 3) (at8 f 0) = 0#8) :
    mixBy g (mixBy f b) = b := by
  refine cols_ext (mixBy_len _ _) hb (fun c hc => ?_)
  obtain ⟨q0, q1, q2, q3⟩ := mixBy_at g (mixBy f b) c hc
  obtain ⟨p0, p1, p2, p3⟩ := mixBy_at f b c hc
  have key : ∀ a0 a1 a2 a3 : B8, colBy (at8 g 0) (at8 g 1) (at8 g 2) (at8 g 3) (colBy (at8 f 0) (at8 f 1) (at8 f 2) (at8 f 3) a0 a1 a2 a3) (colBy (at8 f 3) (at8 f 0) (at8 f 1) (at8 f 2) a0 a1 a2 a3) (colBy (at8 f 2) (at8 f 3) (at8 f 0) (at8 f 1) a0 a1 a2 a3) (colBy (at8 f 1) (at8 f 2) (at8 f 3) (at8 f 0) a0 a1 a2 a3) = a0 :=
    fun a0 a1 a2 a3 => col_back _ _ _ _ _ _ _ _ a0 a1 a2 a3 e0 e1 e2 e3
  rw [p0, p1, p2, p3] at q0 q1 q2 q3
  obtain ⟨k1, k2, k3⟩ := col_back1 _ _ _ _ _ _ _ _ key (at8 b (4 * c)) (at8 b (4 * c + 1)) (at8 b (4 * c + 2)) (at8 b (4 * c + 3))
  exact ⟨q0.trans (key _ _ _ _), q1.trans k1, q2.trans k2, q3.trans k3⟩
theorem rev_fwd (b : List B8) (hb : b.length = 16) : mixBy rev (mixBy fwd b) = b := mix_back _ _ b hb (by decide +kernel) (by decide +kernel) (by decide +kernel) (by decide +kernel)
theorem fwd_rev (b : List B8) (hb : b.length = 16) : mixBy fwd (mixBy rev b) = b := mix_back _ _ b hb (by decide +kernel) (by decide +kernel) (by decide +kernel) (by decide +kernel)

theorem decStep_len (W : List (List B8)) (last r : Nat) (b : List B8) : (decStep W last r b).length = 16 := unsubs_len _
theorem decR_len (W : List (List B8)) (last : Nat) (b : List B8) (hb : b.length = 16) (n : Nat) : (decR W last b n).length = 16 := by
  cases n
  · exact hb
  · exact decStep_len _ _ _ _
theorem step_back (W : List (List B8)) (last r : Nat) (s : List B8) (hs : s.length = 16) : decStep W last r (addK W r (if r < last then mixBy fwd (subs s) else subs s)) = s := by
  unfold decStep
  by_cases h : r < last
  · simp only [h, if_true]
    rw [addK_addK _ _ _ (mixBy_len _ _), rev_fwd _ (subs_len _), unsubs_subs s hs]
  · simp only [h, if_false]
    rw [addK_addK _ _ _ (subs_len _), unsubs_subs s hs]
theorem step_fwd (W : List (List B8)) (last r : Nat) (s : List B8) (hs : s.length = 16) : addK W r (if r < last then mixBy fwd (subs (decStep W last r s)) else subs (decStep W last r s)) = s := by
  unfold decStep
  by_cases h : r < last
  · simp only [h, if_true]
    rw [subs_unsubs _ (mixBy_len _ _), fwd_rev _ (addK_len _ _ _), addK_addK _ _ _ hs]
  · simp only [h, if_false]
    rw [subs_unsubs _ (addK_len _ _ _), addK_addK _ _ _ hs]
theorem decR_enc (W : List (List B8)) (last : Nat) (b : List B8) (n : Nat) (hn : n ≤ last) : decR W last (encR W last b last) n = encR W last b (last - n) := by
  induction n with
  | zero => rfl
  | succ n ih =>
    show decStep W last (last - n) (decR W last (encR W last b last) n) = _
    rw [ih (by omega)]
    obtain ⟨m, hm⟩ : ∃ m, last - n = m + 1 := ⟨last - n - 1, by omega⟩
    rw [hm, show last - (n + 1) = m by omega]
    exact step_back W last (m + 1) _ (encR_len _ _ _ _)
theorem dec_enc (W : List (List B8)) (b : List B8) (hb : b.length = 16) : dec W (enc W b) = b := by
  unfold dec enc
  rw [decR_enc _ _ _ _ (Nat.le_refl _), Nat.sub_self]
  exact addK_addK W 0 b hb
theorem encR_dec (W : List (List B8)) (last : Nat) (b : List B8) (hb : b.length = 16) (n : Nat) (hn : n ≤ last) : encR W last (addK W 0 (decR W last b last)) n = decR W last b (last - n) := by
  induction n with
  | zero => exact addK_addK W 0 _ (decR_len W last b hb _)
  | succ n ih =>
    show addK W (n + 1) (if n + 1 < last then mixBy fwd (subs (encR W last _ n)) else subs (encR W last _ n)) = _
    rw [ih (by omega)]
    obtain ⟨m, hm⟩ : ∃ m, last - n = m + 1 := ⟨last - n - 1, by omega⟩
    rw [hm, show last - (n + 1) = m by omega]
    show addK W (n + 1) (if n + 1 < last then mixBy fwd (subs (decStep W last (last - m) _)) else subs (decStep W last (last - m) _)) = _
    rw [show last - m = n + 1 by omega]
    exact step_fwd W last (n + 1) _ (decR_len W last b hb m)
theorem enc_dec (W : List (List B8)) (b : List B8) (hb : b.length = 16) : enc W (dec W b) = b := by
  unfold dec enc
  rw [encR_dec _ _ _ hb _ (Nat.le_refl _), Nat.sub_self]
  rfl

/-- The words of a key. -/
def wordOf (key : List B8) (i : Nat) : List B8 := [at8 key (4 * i), at8 key (4 * i + 1), at8 key (4 * i + 2), at8 key (4 * i + 3)]
def turned (n i : Nat) (t : List B8) : List B8 :=
  if i % n = 0 then [bx (at8 t 1) ^^^ pw 2#8 (i / n - 1), bx (at8 t 2), bx (at8 t 3), bx (at8 t 0)]
  else if n = 8 ∧ i % 8 = 4 then [bx (at8 t 0), bx (at8 t 1), bx (at8 t 2), bx (at8 t 3)] else t
def xor4 (a b : List B8) : List B8 := [at8 a 0 ^^^ at8 b 0, at8 a 1 ^^^ at8 b 1, at8 a 2 ^^^ at8 b 2, at8 a 3 ^^^ at8 b 3]
/-- The first words: n of the key, then m more. -/
def kws (key : List B8) (n : Nat) : Nat → List (List B8)
  | 0 => (List.range n).map (wordOf key)
  | m + 1 => kws key n m ++ [xor4 ((kws key n m).getD (n + m - n) []) (turned n (n + m) ((kws key n m).getD (n + m - 1) []))]
/-- All words of a key. -/
def words (key : List B8) : List (List B8) := kws key (key.length / 4) (3 * (key.length / 4) + 28)
theorem kws_len (key : List B8) (n m : Nat) : (kws key n m).length = n + m := by
  induction m with
  | zero => simp [kws]
  | succ m ih => simp [kws, ih, Nat.add_assoc]
theorem xor4_len (a b : List B8) : (xor4 a b).length = 4 := rfl
theorem kws_four (key : List B8) (n m : Nat) : ∀ x ∈ kws key n m, x.length = 4 := by
  induction m with
  | zero =>
    intro x hx
    obtain ⟨i, _, rfl⟩ := List.mem_map.1 hx
    rfl
  | succ m ih =>
    intro x hx
    rcases List.mem_append.1 hx with h | h
    · exact ih x h
    · rw [List.mem_singleton.1 h]; rfl
theorem words_len (key : List B8) : (words key).length = key.length / 4 + (3 * (key.length / 4) + 28) := kws_len _ _ _
theorem words_four (key : List B8) : ∀ x ∈ words key, x.length = 4 := kws_four _ _ _
theorem at8_set (l : List B8) (m i : Nat) (x : B8) (hm : m < l.length) : at8 (l.set m x) i = if i = m then x else at8 l i := by
  by_cases h : i = m
  · subst h; simp [at8, List.getD, hm]
  · rw [if_neg h]; unfold at8 List.getD; rw [List.getElem?_set_ne (fun e => h e.symm)]
theorem nts_set (l : List B8) (m : Nat) (x : B8) : nts (l.set m x) = (nts l).set m (b8 x) := by simp [nts, List.map_set]
theorem blk_nts {w : World} {g : Nat} {T : TypeId} {l : List B8} (h : Blk w g T (u8s (nts l))) (i : Nat) (hi : i < l.length) : w.cell? ⟨g, i, none⟩ = some (.int .u8 (b8 (at8 l i) : Nat)) := by
  rw [h.cell]
  have e := nts_at l i hi
  unfold u8s
  rw [List.getElem?_map, e]; rfl
theorem blk_nts_set {w : World} {g : Nat} {T : TypeId} {l : List B8} (h : Blk w g T (u8s (nts l))) (i : Nat) (x : B8) : Blk (w.setCell ⟨g, i, none⟩ (.int .u8 (b8 x : Nat))) g T (u8s (nts (l.set i x))) := by
  rw [nts_set, ← u8s_set]; exact h.set i _
end Go.Proofs.Ytpdkdeebdhdhgaa
