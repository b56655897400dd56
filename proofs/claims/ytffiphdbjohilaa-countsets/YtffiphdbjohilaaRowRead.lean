/- row: next, and the steps of a reader: they give up by a panic, which is caught. -/
import Derived.Test.YtffiphdbjohilaaRowLeaf
import Derived.Defers
import Derived.Recover
namespace Go.Proofs.Ytffiphdbjohilaa
open Go.RowKit

theorem next_some {w : World} {r : Nat} (a : Addr) (n l cap : Nat) (hn : n ≤ l) (hcap : l ≤ cap) (hc : w.cell? ⟨r, 0, none⟩ = some (.slice (some a) l cap)) (hz : w.frozen? ⟨r, 0, none⟩ = false) :
    Calls Try.prog 36 #[.pointer (some ⟨r, 0, none⟩), .int .i64 n] w fun e w' => e = .returned (.slice (some a) n cap) ∧
      ∃ a', w' = w.setCell ⟨r, 0, none⟩ (.slice (some a') (l - n) (cap - n)) ∧ (a' = a.add n ∨ (a' = a ∧ n = l)) := by
  go_enter Try.func36, Try.ntmps36
  go_wp2
  all_goals go_ret
  · exact ⟨rfl, a, by simp, .inr ⟨rfl, by omega⟩⟩
  · exact ⟨rfl, _, rfl, .inl rfl⟩
theorem next_none {w : World} {r : Nat} (hc : w.cell? ⟨r, 0, none⟩ = some (.slice none 0 0)) (hz : w.frozen? ⟨r, 0, none⟩ = false) :
    Calls Try.prog 36 #[.pointer (some ⟨r, 0, none⟩), .int .i64 0] w fun e w' => e = .returned (.slice none 0 0) ∧ w' = w.setCell ⟨r, 0, none⟩ (.slice none 0 0) := by
  go_enter Try.func36, Try.ntmps36
  go_wp2
  go_ret
  exact ⟨rfl, rfl⟩
theorem next_short {w : World} {r : Nat} (ao : Option Addr) (l cap : Nat) (n : Int) (hn : l < n) (hc : w.cell? ⟨r, 0, none⟩ = some (.slice ao l cap)) :
    Calls Try.prog 36 #[.pointer (some ⟨r, 0, none⟩), .int .i64 n] w fun e w' => e = .panicked [{ v := .iface 24 (.int .i64 2), recovered := false }] ∧ w' = w := by
  go_enter Try.func36, Try.ntmps36
  go_wp2
  exact ⟨rfl, rfl, rfl⟩

theorem errinfo : (Try.prog.info? 24).map (fun i => (i.zero, i.size, i.bytes)) = some (some (.int .i64 0), 1, 8) := by kernel_rfl
theorem errnil (w : World) (c : Int) : Sem.run Try.prog (Instr.typeAssert (.iface 24 (.int .i64 c)) 20 24 true) w = .ok (.tuple #[.int .i64 c, .bool true]) w := by
  simp [Instr.typeAssert, go_sem]
theorem errnone (w : World) : Sem.run Try.prog (Instr.typeAssert .nilIface 20 24 true) w = .ok (.tuple #[.int .i64 0, .bool false]) w := by
  obtain ⟨i0, hi, hz0, hz1, hz2⟩ := info_parts errinfo
  simp [Instr.typeAssert, go_sem, zeroValue, typeInfo, hi, hz0]
theorem caught (p : Addr) (r : Nat) (c : Int) (x y : Value) (w : World) (hp : w.cell? p = some (.pointer (some ⟨r, 0, none⟩))) (h0 : w.cell? ⟨r, 0, none⟩ = some x) (z0 : w.frozen? ⟨r, 0, none⟩ = false) (h1 : w.cell? ⟨r, 1, none⟩ = some y) (z1 : w.frozen? ⟨r, 1, none⟩ = false) :
    CallsD Try.prog 38 #[.pointer (some p)] (.panicking ({ v := .iface 24 (.int .i64 c), recovered := false } :: [])) w fun e u' w' =>
      e = .returned (.tuple #[]) ∧ u' = .panicking ({ v := .iface 24 (.int .i64 c), recovered := true } :: []) ∧ w' = (w.setCell ⟨r, 0, none⟩ (.slice none 0 0)).setCell ⟨r, 1, none⟩ (.int .i64 c) := by
  refine callsD_of_wpS Try.func38 rfl fun c₀ cs hu => ?_
  apply wpS_seq
  apply wpS_region
  simp [wpOpsS, go_sem, recoverD, hu, errnil, Try.ntmps38, Exit.thenS]
  refine wpS_of_wp ?_
  simp [Array.replicate]
  go_wp2
  simp [bodyPostS, results, Try.results38]

theorem idle (p : Addr) (w : World) :
    CallsD Try.prog 38 #[.pointer (some p)] .returning w fun e u' w' => e = .returned (.tuple #[]) ∧ u' = .returning ∧ w' = w := by
  refine callsD_of_wpS Try.func38 rfl fun c₀ cs hu => ?_
  apply wpS_seq
  apply wpS_region
  simp [wpOpsS, go_sem, recoverD, hu, errnone, Try.ntmps38, Exit.thenS]
  refine wpS_of_wp ?_
  simp [Array.replicate]
  go_wp2
  cases c₀
  simp_all [bodyPostS, results, Try.results38]

/-- The world behind a fault c of the reader at r. -/
def down (w : World) (r : Nat) (c : Int) : World := (w.setCell ⟨r, 0, none⟩ (.slice none 0 0)).setCell ⟨r, 1, none⟩ (.int .i64 c)

theorem attempt_faulty {w : World} {r : Nat} {og : Option Nat} {zs : List Nat} {f : Int} (h : Rd w r og zs f) (hf : f ≠ 0) (fv : Value) :
    Calls Try.prog 34 #[.pointer (some ⟨r, 0, none⟩), fv] w fun e w' => e = .returned (.tuple #[]) ∧ Below w.heap.size w w' := by
  have hb : Below w.heap.size w (w.alloc (.cells #[.pointer (some ⟨r, 0, none⟩)] 53)) := (Below.refl _ _).alloc (Nat.le_refl _) _
  have HF : Hid (Calls Try.prog 37 #[.pointer (some ⟨r, 0, none⟩)] (w.alloc (.cells #[.pointer (some ⟨r, 0, none⟩)] 53)) fun e w' => e = .returned (.int .i64 f) ∧ w' = w.alloc (.cells #[.pointer (some ⟨r, 0, none⟩)] 53)) := fault_any (h.below hb)
  clear h
  go_enter_defers Try.func34, Try.ntmps34
  go_wp2_with (go_at_call 37; refine Calls.mono HF.out ?_; rintro e w' ⟨rfl, rfl⟩)
  exact ⟨_, results_none rfl _ _ _, rfl, hb⟩
theorem attempt_nil (w : World) (fv : Value) :
    Calls Try.prog 34 #[.pointer none, fv] w fun e w' => e = .returned (.tuple #[]) ∧ Below w.heap.size w w' := by
  have hb : Below w.heap.size w (w.alloc (.cells #[.pointer none] 53)) := (Below.refl _ _).alloc (Nat.le_refl _) _
  go_enter_defers Try.func34, Try.ntmps34
  go_wp2_with (go_at_call 37; refine (fault_nil _).mono ?_; rintro e w' ⟨rfl, rfl⟩)
  exact ⟨_, results_none rfl _ _ _, rfl, hb⟩

theorem attempt_num {w : World} {r : Nat} {og : Option Nat} {zs : List Nat} {Q : World → Prop} (h : Rd w r og zs 0) (p0 p1 p2 : Value)
    (H : Calls Try.prog 35 #[p0, p1, p2] (w.alloc (.cells #[.pointer (some ⟨r, 0, none⟩)] 53)) fun e w' => e = .returned (.tuple #[]) ∧ Q w') :
    Calls Try.prog 34 #[.pointer (some ⟨r, 0, none⟩), .func (.func 35) #[] #[p0, p1, p2]] w fun e w' => e = .returned (.tuple #[]) ∧ Q w' := by
  have hb : Below w.heap.size w (w.alloc (.cells #[.pointer (some ⟨r, 0, none⟩)] 53)) := (Below.refl _ _).alloc (Nat.le_refl _) _
  have HF : Hid (Calls Try.prog 37 #[.pointer (some ⟨r, 0, none⟩)] (w.alloc (.cells #[.pointer (some ⟨r, 0, none⟩)] 53)) fun e w' => e = .returned (.int .i64 0) ∧ w' = w.alloc (.cells #[.pointer (some ⟨r, 0, none⟩)] 53)) := fault_any (h.below hb)
  have HS : Hid (Calls Try.prog 35 #[p0, p1, p2] (w.alloc (.cells #[.pointer (some ⟨r, 0, none⟩)] 53)) fun e w' => e = .returned (.tuple #[]) ∧ Q w') := H
  clear h H
  have hmf : ∀ (fn : Fn) (first cap : Array Value) (w : World), (Instr.makeFunc fn first cap).run Try.prog w = .ok (.func fn first cap) w := fun _ _ _ _ => rfl
  go_enter_defers Try.func34, Try.ntmps34
  go_wp2_with (first
    | (go_at_call 37; refine Calls.mono HF.out ?_; rintro e w' ⟨rfl, rfl⟩)
    | (go_at_call 35; refine Calls.mono HS.out ?_; rintro e w' ⟨rfl, hq⟩))
  refine leaves_cons (f := 38) (args := #[.pointer (some ⟨w.heap.size, 0, none⟩)]) (by simp) (by simp [go_sem]) ?_
  refine (idle _ _).mono ?_
  rintro e u' w'' ⟨rfl, rfl, rfl⟩
  exact ⟨_, results_none rfl _ _ _, rfl, hq⟩

theorem attempt_num_not {w : World} {r : Nat} {og : Option Nat} {zs : List Nat} (h : Rd w r og zs 0) (p0 p1 p2 : Value) (c : Int)
    (H : Calls Try.prog 35 #[p0, p1, p2] (w.alloc (.cells #[.pointer (some ⟨r, 0, none⟩)] 53)) fun e w' => e = .panicked [{ v := .iface 24 (.int .i64 c), recovered := false }] ∧ w' = w.alloc (.cells #[.pointer (some ⟨r, 0, none⟩)] 53)) :
    Calls Try.prog 34 #[.pointer (some ⟨r, 0, none⟩), .func (.func 35) #[] #[p0, p1, p2]] w fun e w' => e = .returned (.tuple #[]) ∧ w' = down (w.alloc (.cells #[.pointer (some ⟨r, 0, none⟩)] 53)) r c := by
  have hb : Below w.heap.size w (w.alloc (.cells #[.pointer (some ⟨r, 0, none⟩)] 53)) := (Below.refl _ _).alloc (Nat.le_refl _) _
  have HF : Hid (Calls Try.prog 37 #[.pointer (some ⟨r, 0, none⟩)] (w.alloc (.cells #[.pointer (some ⟨r, 0, none⟩)] 53)) fun e w' => e = .returned (.int .i64 0) ∧ w' = w.alloc (.cells #[.pointer (some ⟨r, 0, none⟩)] 53)) := fault_any (h.below hb)
  have HS : Hid (Calls Try.prog 35 #[p0, p1, p2] (w.alloc (.cells #[.pointer (some ⟨r, 0, none⟩)] 53)) fun e w' => e = .panicked [{ v := .iface 24 (.int .i64 c), recovered := false }] ∧ w' = w.alloc (.cells #[.pointer (some ⟨r, 0, none⟩)] 53)) := H
  obtain ⟨ao, cap, c0, c1, z0, z1, _, _⟩ := (h.below hb).cells
  clear h H
  have hmf : ∀ (fn : Fn) (first cap : Array Value) (w : World), (Instr.makeFunc fn first cap).run Try.prog w = .ok (.func fn first cap) w := fun _ _ _ _ => rfl
  have HC := caught ⟨w.heap.size, 0, none⟩ r c _ _ (w.alloc (.cells #[.pointer (some ⟨r, 0, none⟩)] 53)) (by simp [go_sem]) c0 z0 c1 z1
  go_enter_defers Try.func34, Try.ntmps34
  go_wp2_with (first
    | (go_at_call 37; refine Calls.mono HF.out ?_; rintro e w' ⟨rfl, rfl⟩)
    | (go_at_call 35; refine Calls.mono HS.out ?_; rintro e w' ⟨rfl, rfl⟩))
  refine leaves_cons (f := 38) (args := #[.pointer (some ⟨w.heap.size, 0, none⟩)]) (by simp) (by simp [go_sem]) ?_
  refine HC.mono ?_
  rintro e u' w'' ⟨rfl, rfl, rfl⟩
  simp [Leaves, settle, results, Try.results34, go_sem, down]
end Go.Proofs.Ytffiphdbjohilaa
