/- Rounds over columns: what the program does with each column is the document's round. -/
import Derived.Test.YtdlalpklopnpjaaAesKeyed
namespace Go.Proofs.Ytdlalpklopnpjaa
open Go.RowKit

theorem cols_congr {F G : Nat → List B8} (h : ∀ k, k < 4 → F k = G k) : cols F = cols G := by
  refine at8_ext (cols_len _) (cols_len _) (fun i hi => ?_)
  unfold cols
  rw [mk16_at _ i hi, mk16_at _ i hi, h (i / 4) (by omega)]
theorem word_at (s : List B8) (q t : Nat) (ht : t < 4) : at8 (wordOf s q) t = at8 s (4 * q + t) := by
  match t, ht with
  | 0, _ => rfl
  | 1, _ => rfl
  | 2, _ => rfl
  | 3, _ => rfl
theorem colMix_at (f l : List B8) (t : Nat) (ht : t < 4) : at8 (colMix f l) t = mixSum f l t 4 := by
  match t, ht with
  | 0, _ => rfl
  | 1, _ => rfl
  | 2, _ => rfl
  | 3, _ => rfl
theorem mixSum_word (f b : List B8) (q t : Nat) (ht : t < 4) : ∀ n, n ≤ 4 → mixSum f (wordOf b q) t n = mixSum f b (4 * q + t) n
  | 0, _ => rfl
  | n + 1, hn => by
    show mixSum f (wordOf b q) t n ^^^ tm (at8 f ((n + 4 - t % 4) % 4)) (at8 (wordOf b q) (4 * (t / 4) + n)) = mixSum f b (4 * q + t) n ^^^ tm (at8 f ((n + 4 - (4 * q + t) % 4) % 4)) (at8 b (4 * ((4 * q + t) / 4) + n))
    rw [mixSum_word f b q t ht n (by omega), show 4 * (t / 4) + n = n by omega, word_at b q n (by omega), show (4 * q + t) % 4 = t % 4 by omega, show (4 * q + t) / 4 = q by omega]
theorem mix_cols (f b : List B8) : cols (fun k => colMix f (wordOf b k)) = mixBy f b := by
  refine at8_ext (cols_len _) (mixBy_len _ _) (fun i hi => ?_)
  unfold cols mixBy
  rw [mk16_at _ i hi, mk16_at _ i hi, colMix_at _ _ _ (by omega), mixSum_word f b _ _ (by omega) 4 (Nat.le_refl _), show 4 * (i / 4) + i % 4 = i by omega]
theorem map4_at' (f : B8 → B8) (l : List B8) (t : Nat) (ht : t < 4) : at8 (map4 f l) t = f (at8 l t) := map4_at f l t ht
theorem subs_cols (s : List B8) : cols (fun k => map4 bx (wordOf (turnS s) k)) = subs s := by
  refine at8_ext (cols_len _) (subs_len _) (fun i hi => ?_)
  unfold cols subs turnS
  rw [mk16_at _ i hi, mk16_at _ i hi, map4_at _ _ _ (by omega), word_at _ _ _ (by omega), show 4 * (i / 4) + i % 4 = i by omega, mk16_at _ i hi]; rfl
theorem unsubs_cols (s : List B8) : cols (fun k => map4 bk (wordOf (untS s) k)) = unsubs s := by
  refine at8_ext (cols_len _) (unsubs_len _) (fun i hi => ?_)
  unfold cols unsubs untS
  rw [mk16_at _ i hi, mk16_at _ i hi, map4_at _ _ _ (by omega), word_at _ _ _ (by omega), show 4 * (i / 4) + i % 4 = i by omega, mk16_at _ i hi]; rfl
theorem round_cols (s : List B8) : cols (fun k => colMix fwd (map4 bx (wordOf (turnS s) k))) = mixBy fwd (subs s) := by
  rw [← mix_cols]
  refine cols_congr (fun k hk => ?_)
  rw [← subs_cols, cols_word _ k hk rfl]
/-- Two mixes are one, of the factors' product. -/
theorem col_comp (f0 f1 f2 f3 g0 g1 g2 g3 h0 h1 h2 h3 : B8) (a0 a1 a2 a3 : B8)
    (e0 : tm g0 f0 ^^^ tm g1 f3 ^^^ tm g2 f2 ^^^ tm g3 f1 = h0) (e1 : tm g0 f1 ^^^ tm g1 f0 ^^^ tm g2 f3 ^^^ tm g3 f2 = h1)
    (e2 : tm g0 f2 ^^^ tm g1 f1 ^^^ tm g2 f0 ^^^ tm g3 f3 = h2) (e3 : tm g0 f3 ^^^ tm g1 f2 ^^^ tm g2 f1 ^^^ tm g3 f0 = h3) :
    colBy g0 g1 g2 g3 (colBy f0 f1 f2 f3 a0 a1 a2 a3) (colBy f3 f0 f1 f2 a0 a1 a2 a3) (colBy f2 f3 f0 f1 a0 a1 a2 a3) (colBy f1 f2 f3 f0 a0 a1 a2 a3) = colBy h0 h1 h2 h3 a0 a1 a2 a3 := by
  unfold colBy
  simp only [tm_add, tm_assoc]
  have q0 : tm (tm g0 f0) a0 ^^^ tm (tm g1 f3) a0 ^^^ tm (tm g2 f2) a0 ^^^ tm (tm g3 f1) a0 = tm h0 a0 := by
    rw [← tm_left a0, ← tm_left a0, ← tm_left a0, e0]
  have q1 : tm (tm g0 f1) a1 ^^^ tm (tm g1 f0) a1 ^^^ tm (tm g2 f3) a1 ^^^ tm (tm g3 f2) a1 = tm h1 a1 := by
    rw [← tm_left a1, ← tm_left a1, ← tm_left a1, e1]
  have q2 : tm (tm g0 f2) a2 ^^^ tm (tm g1 f1) a2 ^^^ tm (tm g2 f0) a2 ^^^ tm (tm g3 f3) a2 = tm h2 a2 := by
    rw [← tm_left a2, ← tm_left a2, ← tm_left a2, e2]
  have q3 : tm (tm g0 f3) a3 ^^^ tm (tm g1 f2) a3 ^^^ tm (tm g2 f1) a3 ^^^ tm (tm g3 f0) a3 = tm h3 a3 := by
    rw [← tm_left a3, ← tm_left a3, ← tm_left a3, e3]
  have hs : ∀ p0 p1 p2 p3 q0 q1 q2 q3 r0 r1 r2 r3 s0 s1 s2 s3 : B8, (p0 ^^^ p1 ^^^ p2 ^^^ p3) ^^^ (q0 ^^^ q1 ^^^ q2 ^^^ q3) ^^^ (r0 ^^^ r1 ^^^ r2 ^^^ r3) ^^^ (s0 ^^^ s1 ^^^ s2 ^^^ s3) = (p0 ^^^ q0 ^^^ r0 ^^^ s0) ^^^ (p1 ^^^ q1 ^^^ r1 ^^^ s1) ^^^ (p2 ^^^ q2 ^^^ r2 ^^^ s2) ^^^ (p3 ^^^ q3 ^^^ r3 ^^^ s3) := by
    intros; ac_rfl
  rw [hs, q0, q1, q2, q3]
theorem mix_comp (f g h b : List B8)
    (e0 : tm (at8 g 0) (at8 f 0) ^^^ tm (at8 g 1) (at8 f 3) ^^^ tm (at8 g 2) (at8 f 2) ^^^ tm (at8 g 3) (at8 f 1) = at8 h 0) (e1 : tm (at8 g 0) (at8 f 1) ^^^ tm (at8 g 1) (at8 f 0) ^^^ tm (at8 g 2) (at8 f 3) ^^^ tm (at8 g 3) (at8 f 2) = at8 h 1)
    (e2 : tm (at8 g 0) (at8 f 2) ^^^ tm (at8 g 1) (at8 f 1) ^^^ tm (at8 g 2) (at8 f 0) ^^^ tm (at8 g 3) (at8 f 3) = at8 h 2) (e3 : tm (at8 g 0) (at8 f 3) ^^^ tm (at8 g 1) (at8 f 2) ^^^ tm (at8 g 2) (at8 f 1) ^^^ tm (at8 g 3) (at8 f 0) = at8 h 3) :
    mixBy g (mixBy f b) = mixBy h b := by
  refine cols_ext (mixBy_len _ _) (mixBy_len _ _) (fun c hc => ?_)
  obtain ⟨q0, q1, q2, q3⟩ := mixBy_at g (mixBy f b) c hc
  obtain ⟨p0, p1, p2, p3⟩ := mixBy_at f b c hc
  obtain ⟨r0, r1, r2, r3⟩ := mixBy_at h b c hc
  rw [p0, p1, p2, p3] at q0 q1 q2 q3
  rw [q0, q1, q2, q3, r0, r1, r2, r3]
  generalize at8 b (4 * c) = a0; generalize at8 b (4 * c + 1) = a1; generalize at8 b (4 * c + 2) = a2; generalize at8 b (4 * c + 3) = a3
  generalize at8 f 0 = f0 at *; generalize at8 f 1 = f1 at *; generalize at8 f 2 = f2 at *; generalize at8 f 3 = f3 at *
  generalize at8 g 0 = g0 at *; generalize at8 g 1 = g1 at *; generalize at8 g 2 = g2 at *; generalize at8 g 3 = g3 at *
  generalize at8 h 0 = h0 at *; generalize at8 h 1 = h1 at *; generalize at8 h 2 = h2 at *; generalize at8 h 3 = h3 at *
  have x4' : ∀ p q r s : B8, p ^^^ q ^^^ r ^^^ s = q ^^^ r ^^^ s ^^^ p := by intros; ac_rfl
  have x4'' : ∀ p q r s : B8, p ^^^ q ^^^ r ^^^ s = r ^^^ s ^^^ p ^^^ q := by intros; ac_rfl
  have x4''' : ∀ p q r s : B8, p ^^^ q ^^^ r ^^^ s = s ^^^ p ^^^ q ^^^ r := by intros; ac_rfl
  refine ⟨col_comp _ _ _ _ _ _ _ _ _ _ _ _ a0 a1 a2 a3 e0 e1 e2 e3, ?_, ?_, ?_⟩
  · exact col_comp _ _ _ _ g3 g0 g1 g2 _ _ _ _ a0 a1 a2 a3 ((x4' _ _ _ _).trans e3) ((x4' _ _ _ _).trans e0) ((x4' _ _ _ _).trans e1) ((x4' _ _ _ _).trans e2)
  · exact col_comp _ _ _ _ g2 g3 g0 g1 _ _ _ _ a0 a1 a2 a3 ((x4'' _ _ _ _).trans e2) ((x4'' _ _ _ _).trans e3) ((x4'' _ _ _ _).trans e0) ((x4'' _ _ _ _).trans e1)
  · exact col_comp _ _ _ _ g1 g2 g3 g0 _ _ _ _ a0 a1 a2 a3 ((x4''' _ _ _ _).trans e1) ((x4''' _ _ _ _).trans e2) ((x4''' _ _ _ _).trans e3) ((x4''' _ _ _ _).trans e0)
theorem fwd3 (b : List B8) : mixBy fwd (mixBy fwd (mixBy fwd b)) = mixBy rev b := by
  rw [mix_comp fwd fwd [5#8, 0#8, 4#8, 0#8] b (by decide +kernel) (by decide +kernel) (by decide +kernel) (by decide +kernel)]
  exact mix_comp [5#8, 0#8, 4#8, 0#8] fwd rev b (by decide +kernel) (by decide +kernel) (by decide +kernel) (by decide +kernel)
theorem word_mix (f b : List B8) (k : Nat) (hk : k < 4) : wordOf (mixBy f b) k = colMix f (wordOf b k) := by
  rw [← mix_cols, cols_word _ k hk rfl]
theorem unmix_cols (b : List B8) : cols (fun k => mixN (wordOf b k) 3) = mixBy rev b := by
  rw [← fwd3, ← cols_own (mixBy_len fwd (mixBy fwd (mixBy fwd b)))]
  refine cols_congr (fun k hk => ?_)
  rw [word_mix _ _ k hk, word_mix _ _ k hk, word_mix _ _ k hk]; rfl
end Go.Proofs.Ytdlalpklopnpjaa
