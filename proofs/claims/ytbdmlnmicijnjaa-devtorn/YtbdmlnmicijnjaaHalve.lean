/- A row of bytes cut in two. -/
import Derived.Test.YtbdmlnmicijnjaaOwnOps
namespace Go.Proofs.Ytbdmlnmicijnjaa
open Go.RowKit

theorem slice_up {a : Addr} {m cap n : Nat} (hn : n ≤ cap) (w0 : World) :
    (Instr.sliceAt 32 (.slice (some a) m cap) none (some (.int .i64 (n : Int))) none).run Try.prog w0 = .ok (.slice (some a) n cap) w0 := by
  have hn' : (n : Int) ≤ (cap : Int) := by omega
  go_simp
theorem slice_up0 (w0 : World) :
    (Instr.sliceAt 32 (.slice none 0 0) none (some (.int .i64 0)) none).run Try.prog w0 = .ok (.slice none 0 0) w0 := by
  go_simp
set_option maxRecDepth 100000 in
/-- A row cut in two. -/
theorem Bs.halve {w : World} {v : Value} {xs : List Nat} {n : Nat} (h : Bs w v xs) (hn : n ≤ xs.length) : ∃ p q, (∀ w0 : World, (Instr.sliceAt 32 v none (some (.int .i64 (n : Int))) none).run Try.prog w0 = .ok p w0) ∧ (∀ w0 : World, (Instr.sliceAt 32 v (some (.int .i64 (n : Int))) none none).run Try.prog w0 = .ok q w0) ∧ Bs w p (xs.take n) ∧ Bs w q (xs.drop n) := by
  have hu : Try.prog.underlying 32 = some (.slice (Try.prog.elem 32)) := by kernel_rfl
  have he : Try.prog.elem 32 = 5 := by kernel_rfl
  have hs : ∀ w0 : World, (sizeOf 5).run Try.prog w0 = .ok 1 w0 := fun w0 => by kernel_rfl
  have h' := h
  obtain ⟨h1, h2, ⟨rfl, h3⟩ | ⟨h0, b, off, cap, rfl, hcap, hb, hcell⟩⟩ := h
  · obtain rfl : n = 0 := by simpa using hn
    rcases h3 with rfl | ⟨a, cap, rfl⟩
    · refine ⟨.slice none 0 0, .slice none 0 0, fun w0 => ?_, fun w0 => ?_, Bs.nil _, Bs.nil _⟩
      · exact slice_up0 w0
      · rw [run_sliceAt_slice _ _ _ _ _ _ hu, run_slice_l w0 _ _ _ _ hu .i64 ((0 : Nat) : Int) (by omega) (by omega), he, hs]; rfl
    · refine ⟨.slice (some a) 0 cap, .slice (some (if cap = 0 then a else a.add 0)) 0 cap, fun w0 => ?_, fun w0 => ?_, ⟨nofun, by simp, .inl ⟨rfl, .inr ⟨_, _, rfl⟩⟩⟩, ⟨nofun, by simp, .inl ⟨rfl, .inr ⟨_, _, rfl⟩⟩⟩⟩
      · exact slice_up (Nat.zero_le _) w0
      · rw [run_sliceAt_slice _ _ _ _ _ _ hu, run_slice_l w0 _ _ _ _ hu .i64 ((0 : Nat) : Int) (by omega) (by omega), he, hs]
        by_cases hcn : cap = 0 <;> simp [Result.andThen, sliced, hcn]
  · obtain ⟨q, hq, hbq, -⟩ := h'.cut rfl h0 hn hcap
    refine ⟨.slice (some ⟨b, off, none⟩) n cap, q, fun w0 => ?_, hq, h'.front hn (by simp), hbq⟩
    exact slice_up (by omega) w0
end Go.Proofs.Ytbdmlnmicijnjaa
