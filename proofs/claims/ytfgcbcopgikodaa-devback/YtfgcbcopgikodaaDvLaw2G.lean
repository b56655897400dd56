/- DevBack: a script done to two devices that need not agree. -/
import Derived.Test.YtfgcbcopgikodaaDvWasG
import Derived.Test.YtfgcbcopgikodaaDvFreeAG
import Derived.Test.YtfgcbcopgikodaaDvFreeBG
import Derived.Test.YtfgcbcopgikodaaDvFreeCG
import Derived.Test.YtfgcbcopgikodaaDvFreeDG
namespace Go.Proofs.Ytfgcbcopgikodaa
open Go.RowKit

theorem fo_any {F : Nat → Prop} {w0 w : World} {gd gx n : Nat} {s0 : Dev} {A : DA} {ud uf : Value} (h : DoIn2 F w0 w gd gx s0 n A ud uf) :
    Calls Try.prog 11 #[.agg #[.pointer (some ⟨gd, 0, none⟩), .pointer (some ⟨gx, 0, none⟩)], .agg (dcells A ud uf).toArray] w (DoIs2 F w0 gd gx s0 (n + 1)) := by
  have h1 := Int.emod_nonneg A.kind (b := 11) (by decide)
  have h2 := Int.emod_lt_of_pos A.kind (b := 11) (by decide)
  rcases (by omega : A.kind % 11 = 0 ∨ A.kind % 11 = 1 ∨ A.kind % 11 = 2 ∨ A.kind % 11 = 3 ∨ A.kind % 11 = 4 ∨ A.kind % 11 = 5 ∨ A.kind % 11 = 6 ∨ A.kind % 11 = 7 ∨ A.kind % 11 = 8 ∨ A.kind % 11 = 9 ∨ A.kind % 11 = 10) with k | k | k | k | k | k | k | k | k | k | k
  · exact fo_0 h k
  · by_cases h7 : A.b = 7
    · exact fo_1a h k h7
    · exact fo_1b h k h7
  · exact fo_2 h k
  · exact fo_3 h k
  · exact fo_4 h k
  · exact fo_5 h k
  · exact fo_6 h k
  · exact fo_7 h k
  · exact fo_8 h k
  · exact fo_9 h k
  · exact fo_10 h k
structure Law2 (w0 wB w : World) (gp gd gx : Nat) (F : Nat → Prop) (s0 : Dev) (k : Nat) : Prop where
  st : DoT2 F wB w gd gx s0 k
  bp : Blk wB gp 28 [.pointer (some ⟨gd, 0, none⟩), .pointer (some ⟨gx, 0, none⟩)]
  fp : F gp
  fw : ∀ b, b < w0.heap.size → F b
  gr : Grow w0 wB
section
variable {w0 wB w w' : World} {gp gd gx k n : Nat} {F : Nat → Prop} {s0 : Dev}
theorem Law2.on (h : Law2 w0 wB w gp gd gx F s0 k) (g : DoT2 F wB w' gd gx s0 n) : Law2 w0 wB w' gp gd gx F s0 n := ⟨g, h.bp, h.fp, h.fw, h.gr⟩
theorem Law2.p (h : Law2 w0 wB w gp gd gx F s0 k) (b : But (fun b => ¬ F b) wB w') : Blk w' gp 28 [.pointer (some ⟨gd, 0, none⟩), .pointer (some ⟨gx, 0, none⟩)] := h.bp.but b (fun n => n h.fp)
theorem Law2.heap (h : Law2 w0 wB w gp gd gx F s0 k) (b : But (fun b => ¬ F b) wB w') {i : Nat} (hi : i < w0.heap.size) : w'.heap[i]? = w0.heap[i]? :=
  (b.block i (Nat.lt_of_lt_of_le hi h.gr.size) (fun n => n (h.fw i hi))).trans (h.gr.block i hi (fun h => h))
theorem Law2.inn {ud uf : Value} {A : DA} (h : Law2 w0 wB w gp gd gx F s0 k) (hk : k ≤ 900) (ra : -9223372036854775808 ≤ A.a ∧ A.a ≤ 9223372036854775807) (rb : -9223372036854775808 ≤ A.b ∧ A.b ≤ 9223372036854775807) (hd : Bf w0 (· < w0.heap.size) ud A.dat) (hf : IntF w0 (· < w0.heap.size) uf A.fat) (hs : DSmall A) (g : Grow w w') : DoIn2 F wB w' gd gx s0 k A ud uf := by
  have b := (h.st.then g).but
  have b0 : But (fun b => ¬ F b) w0 w' := (h.gr.mono (fun _ _ h => h.elim)).trans b
  refine ⟨h.st.then g, hk, ra, rb, ?_, ?_, hs⟩
  · have h1 := hd.but b0 (fun j hj n => n (h.fw j hj))
    exact ⟨h1.1, fun h0 j hj => h.fw j (h1.2 h0 j hj)⟩
  · have h1 := hf.but b0 (fun j hj n => n (h.fw j hj))
    exact ⟨h1.1, fun h0 j hj => h.fw j (h1.2 h0 j hj)⟩
end
/-- What is laid back is what was kept. -/
theorem back_now {s1 s3 : Dev} {i : Nat} (hk : Kp s1.snapped s3) (hi : i < s1.st.length) : (s3.backed s1.im.length).st.getD i [] = s1.now i := by
  obtain ⟨l, hl⟩ := hk.im
  show (s3.im.getD s1.im.length []).getD i [] = _
  have e : s3.im.getD s1.im.length [] = s1.all := by
    rw [hl]
    show ((s1.im ++ [s1.all]) ++ l).getD s1.im.length [] = _
    rw [List.getD_eq_getElem?_getD, List.append_assoc, List.getElem?_append_right (Nat.le_refl _), Nat.sub_self]
    rfl
  rw [e]
  unfold Dev.all
  rw [List.getD_eq_getElem?_getD, List.getElem?_map, List.getElem?_range hi]
  rfl
theorem back_len {s1 s3 : Dev} (hk : Kp s1.snapped s3) : (s3.backed s1.im.length).st.length = s1.st.length := by
  obtain ⟨l, hl⟩ := hk.im
  show (s3.im.getD s1.im.length []).length = _
  have e : s3.im.getD s1.im.length [] = s1.all := by
    rw [hl]
    show ((s1.im ++ [s1.all]) ++ l).getD s1.im.length [] = _
    rw [List.getD_eq_getElem?_getD, List.append_assoc, List.getElem?_append_right (Nat.le_refl _), Nat.sub_self]
    rfl
  rw [e, all_len]
theorem back_iok {s1 s3 : Dev} (hk : Kp s1.snapped s3) : s3.bcode (s1.im.length : Int) = 0 ∧ s3.backd (s1.im.length : Int) = s3.backed s1.im.length := by
  obtain ⟨l, hl⟩ := hk.im
  have h1 : s1.im.length < s3.im.length := by
    rw [hl]
    show _ < ((s1.im ++ [s1.all]) ++ l).length
    rw [List.length_append, List.length_append, List.length_singleton]
    omega
  have h2 : s3.iok (s1.im.length : Int) = true := decide_eq_true ⟨by omega, by omega⟩
  refine ⟨?_, ?_⟩
  · unfold Dev.bcode; rw [h2]; rfl
  · unfold Dev.backd; rw [h2]; rfl
end Go.Proofs.Ytfgcbcopgikodaa
