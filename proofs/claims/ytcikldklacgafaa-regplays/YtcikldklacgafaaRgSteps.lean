/- What the laws of registers share: calls on the device, what a Write leaves, acts of a script. -/
import Derived.Test.YtcikldklacgafaaRgViews
namespace Go.Proofs.Ytcikldklacgafaa
open Go.RowKit

/-- The device's numbers stay small. -/
structure Dsm (s : Dev) (k : Nat) : Prop where
  wr : s.wr = []
  cnt : s.cnt ≤ k
  arm : s.arm ≤ 9223372036854775807
theorem Dsm.up {s : Dev} {k : Nat} (h : Dsm s k) : Dsm s (k + 1) := ⟨h.wr, Nat.le_succ_of_le h.cnt, h.arm⟩
theorem Dsm.acc {s : Dev} {k : Nat} (h : Dsm s k) : Dsm s.acc (k + 1) := ⟨h.wr, Nat.succ_le_succ h.cnt, by have := h.arm; show s.arm - 1 ≤ _; omega⟩
def ondR (s : Dev) : Dev := if s.up then s else s.on []
theorem ondR_up (s : Dev) : (ondR s).up = true := by
  unfold ondR
  split
  · assumption
  · rfl
theorem Dsm.ond {s : Dev} {k : Nat} (h : Dsm s k) : Dsm (ondR s) k := by
  unfold ondR
  split
  · exact h
  · exact ⟨h.wr, h.cnt, by show (0 : Nat) ≤ _; decide⟩
theorem fresh_sm (n : Nat) : Dsm (Dev.fresh n) 0 := ⟨rfl, Nat.le_refl _, by show (0 : Nat) ≤ _; decide⟩
section
variable {F : Nat → Prop} {w0 w : World} {gd gr k : Nat} {s : Dev} {S T : Stt}
theorem Rr.on (h : Rr F w0 w gd gr s S) (hs : Dsm s k) : Calls Try.prog 20 #[.pointer (some ⟨gd, 0, none⟩), .slice none 0 0] w fun e w' => e = .returned (.tuple #[]) ∧ Rr F w0 w' gd gr (ondR s) S := by
  obtain ⟨own, hd, hto⟩ := h.dev
  unfold ondR
  cases hu : s.up
  · refine (on_any hd hu (v := .slice none 0 0) (fs := []) ⟨⟨fun _ h => absurd h List.not_mem_nil, Nat.zero_le _, .inl ⟨rfl, none, 0, rfl⟩⟩, fun h0 => absurd h0 (by simp)⟩ (by rw [hs.wr]; decide)).mono ?_
    rintro e w' ⟨rfl, h1⟩
    exact ⟨rfl, hto _ _ h1⟩
  · refine (on_up hd hu _).mono ?_
    rintro e w' ⟨rfl, rfl⟩
    exact ⟨rfl, h⟩
theorem Rr.arm (h : Rr F w0 w gd gr s S) (x : Int) : Calls Try.prog 18 #[.pointer (some ⟨gd, 0, none⟩), .int .i64 x] w fun e w' => e = .returned (.tuple #[]) ∧ Rr F w0 w' gd gr { s with arm := x.toNat } S := by
  obtain ⟨own, hd, hto⟩ := h.dev
  refine (arm_any hd x).mono ?_
  rintro e w' ⟨rfl, h1⟩
  exact ⟨rfl, hto _ _ h1⟩
theorem Rr.crash (h : Rr F w0 w gd gr s S) : Calls Try.prog 19 #[.pointer (some ⟨gd, 0, none⟩)] w fun e w' => e = .returned (.tuple #[]) ∧ Rr F w0 w' gd gr { s with arm := 0, up := false } S := by
  obtain ⟨own, hd, hto⟩ := h.dev
  refine (crash_any hd).mono ?_
  rintro e w' ⟨rfl, h1⟩
  exact ⟨rfl, hto _ _ h1⟩
theorem Rr.spend (h : Rr F w0 w gd gr s S) (hs : Dsm s k) (hk : k ≤ 1000) : Calls Try.prog 21 #[.pointer (some ⟨gd, 0, none⟩)] w fun e w' => e = .returned (.bool (s.up && !(s.arm == 1))) ∧ Rr F w0 w' gd gr (if s.up then s.acc else s) S := by
  obtain ⟨own, hd, hto⟩ := h.dev
  refine (spend_any hd (by have := hs.cnt; omega) hs.arm).mono ?_
  rintro e w' ⟨rfl, h1⟩
  exact ⟨rfl, hto _ _ h1⟩
theorem Rr.up (h : Rr F w0 w gd gr s S) : Calls Try.prog 22 #[.pointer (some ⟨gd, 0, none⟩)] w fun e w' => e = .returned (.bool s.up) ∧ w' = w := by
  obtain ⟨own, hd, -⟩ := h.dev
  exact up_any hd
theorem wr_cases (s : Dev) (S T : Stt) : (wrcode s S T = 0 ∧ wrheld s S T = T ∧ S.follows T = true) ∨ (wrcode s S T ≠ 0 ∧ wrheld s S T = S) := by
  unfold wrcode wrheld
  cases s.up
  · exact .inr ⟨by simp, rfl⟩
  · cases hf : S.follows T
    · exact .inr ⟨by simp, rfl⟩
    · by_cases ha : s.arm = 1
      · exact .inr ⟨by simp [ha], by simp [ha]⟩
      · exact .inl ⟨by simp [ha], by simp [ha], rfl⟩
theorem wr_sm (h : Dsm s k) (S T : Stt) : Dsm (wrdev s S T) (k + 1) := by
  unfold wrdev
  split
  · split
    · exact h.acc
    · exact h.up
  · exact h.up
theorem blank_pages (h : S.pages ≠ 0) : S ≠ Stt.zero := fun e => h (by rw [e]; rfl)
end
/-- An act of the script, in a later world. -/
theorem RActs.at {w : World} {v : Value} {n i : Nat} {A : Nat → RA} (h : RActs w v n A) (hi : i < n) : ∃ b off cap, v = .slice (some ⟨b, off, none⟩) n cap ∧ b < w.heap.size ∧
    (∀ w' : World, w'.heap[b]? = w.heap[b]? → ∀ c u, (racells (A i))[c]? = some u → w'.cell? ⟨b, off + i * 74 + c, none⟩ = some u) ∧
    (-9223372036854775808 ≤ (A i).n ∧ (A i).n ≤ 9223372036854775807) ∧ (A i).S.ok := by
  obtain ⟨hn, ⟨h0, -⟩ | ⟨h0, b, off, cap, rfl, hb, hc⟩⟩ := h
  · omega
  · have h1 := hc i hi
    exact ⟨b, off, cap, rfl, hb, fun w' hw c u hu => (World.cell?_of_block hw).trans (h1.cell c u hu), h1.rn, h1.ok⟩
theorem RActs.sl {w : World} {v : Value} {n : Nat} {A : Nat → RA} (h : RActs w v n A) : ∃ ao cap, v = .slice ao n cap := by
  obtain ⟨hn, ⟨rfl, ao, cap, e⟩ | ⟨h0, b, off, cap, e, -⟩⟩ := h
  · exact ⟨ao, cap, e⟩
  · exact ⟨_, cap, e⟩
theorem wr_mono {s : Dev} {S T : Stt} (h : S.pages ≠ 0) : ¬ (wrheld s S T).boot < S.boot ∧ ¬ (wrheld s S T).version < S.version ∧ ¬ (wrheld s S T).epoch < S.epoch ∧ (wrheld s S T).pages = S.pages ∧ (wrheld s S T).budget = S.budget ∧ (wrheld s S T).wide = S.wide := by
  rcases wr_cases s S T with ⟨-, e, hf⟩ | ⟨-, e⟩
  · rw [e]
    have hb : S.blank = true ↔ S = Stt.zero := blank_iff
    unfold Stt.follows Stt.lay Stt.sinks at hf
    simp only [Bool.and_eq_true, Bool.or_eq_true, Bool.not_eq_true', Bool.or_eq_false_iff, decide_eq_false_iff_not, beq_iff_eq, and_true, hb] at hf
    rcases hf.2 with h3 | ⟨⟨a1, a2, a3⟩, a4, a5, a6⟩
    · exact absurd h3 (blank_pages h)
    · exact ⟨a4, a5, a6, a1.symm, a2.symm, a3.symm⟩
  · rw [e]
    exact ⟨Int.lt_irrefl _, Int.lt_irrefl _, Int.lt_irrefl _, rfl, rfl, rfl⟩
end Go.Proofs.Ytcikldklacgafaa
