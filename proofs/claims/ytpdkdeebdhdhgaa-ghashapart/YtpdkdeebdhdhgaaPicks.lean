/- A number brought into a range; a byte of a slice turned (as MacTurnedP has them, by other names). -/
import Derived.Test.YtpdkdeebdhdhgaaRefBytes
namespace Go.Proofs.Ytpdkdeebdhdhgaa
open Go.RowKit

theorem i64_in {x : Int} (h : (Lit.int .i64 x).wf = true) : -9223372036854775808 ≤ x ∧ x ≤ 9223372036854775807 := by
  have h8 : IntKind.i64.min ≤ x ∧ x ≤ IntKind.i64.max := by simpa [Lit.wf, go_sem] using h
  have e1 : IntKind.i64.min = -9223372036854775808 := rfl
  have e2 : IntKind.i64.max = 9223372036854775807 := rfl
  omega
theorem pickOf_any (x : Int) (n : Nat) (hx : (Lit.int .i64 x).wf = true) (hn : 0 < n) (hn2 : n ≤ 1099511627776) (w : World) :
    Calls Try.prog 19 #[.int .i64 x, .int .i64 (n : Int)] w fun e w' => ∃ k : Nat, e = .returned (.int .i64 (k : Int)) ∧ k < n ∧ w' = w := by
  have hb := i64_in hx
  have h1 : ¬ ((n : Int) < 1) := by omega
  have h0 : ¬ ((n : Int) = 0) := by omega
  have hne : ¬ ((n : Int) = -1) := by omega
  have ht1 : x.tmod n < n := Int.tmod_lt_of_pos x (by omega)
  have ht2 : -(n : Int) < x.tmod n := by
    have := Int.lt_tmod_of_pos x (b := (n : Int)) (by omega)
    omega
  obtain ⟨m, hm⟩ : ∃ m, m = x.tmod n := ⟨_, rfl⟩
  rw [← hm] at ht1 ht2
  by_cases hneg : m < 0
  · go_enter Try.func19, Try.ntmps19
    go_wp2
    go_ret
    exact ⟨(m + n).toNat, by simp; omega, by omega, rfl⟩
  · go_enter Try.func19, Try.ntmps19
    go_wp2
    go_ret
    exact ⟨m.toNat, by simp; omega, by omega, rfl⟩

theorem Bs.setOne {w : World} {g n cap q y : Nat} {zs : List Nat} (h : Bs w (.slice (some ⟨g, 0, none⟩) n cap) zs) (hq : q < n) (hn : zs.length = n) (hy : y < 256) : Bs (w.setCell ⟨g, q, none⟩ (.int .u8 (y : Int))) (.slice (some ⟨g, 0, none⟩) n cap) (zs.set q y) := by
  obtain ⟨h1, h2, ⟨e, _⟩ | ⟨h0, b, off, cap', e, hcap, hb, hc⟩⟩ := h
  · rw [e] at hn; simp at hn; omega
  · simp only [Value.slice.injEq, Option.some.injEq, Addr.mk.injEq] at e
    obtain ⟨⟨rfl, rfl, _⟩, _, rfl⟩ := e
    refine ⟨?_, by simpa using h2, .inr ⟨by simpa using h0, g, 0, cap, by simp [hn], by simpa using hcap, by simpa using hb, fun i hi => ?_⟩⟩
    · intro z hz
      rcases List.mem_or_eq_of_mem_set hz with h | rfl
      · exact h1 z h
      · exact hy
    · have hi' : i < zs.length := by simpa using hi
      rw [Nat.zero_add]
      have hci := hc i hi'
      rw [Nat.zero_add] at hci
      by_cases e : q = i
      · subst e
        rw [World.cell?_setCell_same (h := hci)]
        simp [List.getD, hi']
      · rw [World.cell?_setCell_other (h := fun h => e (congrArg Addr.off h)), hci]
        simp [List.getD, List.getElem?_set_ne e]
end Go.Proofs.Ytpdkdeebdhdhgaa
