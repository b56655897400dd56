/- latch: who waits; Waits; tables that are none. -/
import Derived.Test.YtgldkckhliklhaaLtHold
namespace Go.Proofs.Ytgldkckhliklhaa
open Go.RowKit Go.Maps

theorem exec_stF {w w' : World} {o : Oper} {ρ : Operand → Value} {T : TypeId} {x y : Operand} {ad : Addr} {v : Value} (ho : o.op = .store T x y) (hx : ρ x = .pointer (some ad)) (hy : ρ y = v) (hr : (storeVar T ad v).run Try.prog w = .ok () w') : (execOp ρ o).run Try.prog w = .ok .skip w' := by
  unfold execOp
  simp only [ho, hx, hy, Instr.storeAt, Instr.sureAddr, Sem.run_bind, Sem.run_pure, Result.andThen_ok, hr]
section
variable {w w' : World} {own own' : Owner} {gt gl gh gw : Nat} {lb hb : Int → Nat} {KL TL : List Int} {c : Lc} {s : Ls} {R : Nat → Prop} {T : Tag}
theorem Lok.waitK (h : Lok s) {x : Wt} (hx : x ∈ s.q) : s.waitK x.1 = x.2.1 ∧ s.wait x.1 = true := by
  refine ⟨?_, List.any_eq_true.2 ⟨x, hx, by simp⟩⟩
  unfold Ls.waitK
  cases hf : s.q.find? (fun y => y.1 == x.1) with
  | none => exact absurd (List.find?_eq_none.1 hf x hx) (by simp)
  | some y =>
    have h1 := List.mem_of_find?_eq_some hf
    have h2 := List.find?_some hf
    rw [h.one h1 hx (by simpa using h2)]
    rfl
theorem wait_none {t : Int} (h : ∀ x ∈ s.q, x.1 ≠ t) : s.waitK t = 0 ∧ s.wait t = false := by
  refine ⟨?_, List.any_eq_false.2 (fun x hx e => h x hx (by simpa using e))⟩
  unfold Ls.waitK
  rw [List.find?_eq_none.2 (fun x hx e => h x hx (by simpa using e))]
  rfl
/-- The look at who waits, told whether it was there. -/
theorem Lm.lookWt (h : Lm w own gt gl gh gw lb hb KL TL s.c) (hok : Lok s) {t : Int} (ht : i64 t) : ∃ al, (Instr.lookup 50 (.map (some gw)) (.int .i64 t) true).run Try.prog w = .ok (.tuple #[.agg #[.int .i64 (s.waitK t), .bool al], .bool (s.wait t)]) w ∧ (s.wait t = true → (t, s.waitK t, al) ∈ s.q) := by
  have hl := h.lookW ht true
  by_cases hx : ∃ x ∈ s.q, x.1 = t
  · obtain ⟨x, hx, rfl⟩ := hx
    obtain ⟨e1, e2⟩ := hok.waitK hx
    refine ⟨x.2.2, ?_, fun _ => by rw [e1]; exact hx⟩
    rw [e1, e2]
    exact hl.1 x hx rfl
  · obtain ⟨e1, e2⟩ := wait_none (s := s) (t := t) (fun x h e => hx ⟨x, h, e⟩)
    refine ⟨false, ?_, fun e => by rw [e2] at e; cases e⟩
    rw [e1, e2]
    exact hl.2 (fun x h e => hx ⟨x, h, e⟩)
/-- What is looked up is laid into a variable. -/
theorem boxWt (w : World) (k : Int) (a : Bool) : ∃ w2, (storeVar 60 ⟨w.heap.size, 0, none⟩ (.agg #[.int .i64 k, .bool a])).run Try.prog (w.alloc (.cells #[.int .i64 0, .bool false] 60)) = .ok () w2 ∧ Blk w2 w.heap.size 60 [.int .i64 k, .bool a] ∧ Grow w w2 := by
  have hb : Blk (w.alloc (.cells #[.int .i64 0, .bool false] 60)) w.heap.size 60 [.int .i64 0, .bool false] := Blk.new (L := [.int .i64 0, .bool false]) rfl
  obtain ⟨w2, h1, h2, h3⟩ := run_storeVar_at _ w.heap.size 0 60 60 [] [.int .i64 0, .bool false] [] [.int .i64 k, .bool a] (by simpa using hb) rfl rfl (by rw [iWt]; rfl) (by intro v hv; simp at hv; rcases hv with rfl | rfl <;> rfl)
  exact ⟨w2, h1, by simpa using h2, ((But.refl (fun _ => False) w).alloc _).then h3 (fun b hb e => by omega)⟩
set_option maxRecDepth 100000 in
set_option maxHeartbeats 1000000 in
theorem waits_any (h : Lt w own gt s) (hok : Lok s) {t : Int} (ht : i64 t) : Calls Try.prog 16 #[ptr gt, .int .i64 t] w fun e w' => e = .returned (.tuple #[.int .i64 (s.waitK t), .bool (s.wait t)]) ∧ Grow w w' := by
  obtain ⟨gl, gh, gw, lb, hb, KL, TL, h⟩ := h
  have c2 : w.cell? ⟨gt, 2, none⟩ = some (.map (some gw)) := h.blk.cell 2
  obtain ⟨al, hl, -⟩ := h.lookWt hok ht
  generalize s.waitK t = kk at *
  generalize s.wait t = bb at *
  obtain ⟨w2, hs, hb2, hg⟩ := boxWt w kk al
  have HL := Hid.mk' hl
  have HS := Hid.mk' hs
  have HG := Hid.mk' hg
  have d0 : w2.cell? ⟨w.heap.size, 0, none⟩ = some (.int .i64 kk) := hb2.cell 0
  clear h hok ht hl hs hb2 hg
  go_enter Try.func16, Try.ntmps16
  go_wp2_with (first
    | (refine wpList_runH rfl (exec_lookup rfl rfl rfl HL.out) ?_)
    | (refine wpList_runH rfl (exec_allocF rfl (zWt w)) ?_)
    | (refine wpList_skipH rfl (exec_stF (v := .agg #[.int .i64 kk, .bool al]) rfl rfl rfl HS.out) ?_)
    | fail)
  go_ret2
  exact ⟨rfl, HG.out⟩
theorem waits_nil (w : World) (t : Int) : Calls Try.prog 16 #[.pointer none, .int .i64 t] w fun e w' => e = .returned (.tuple #[.int .i64 0, .bool false]) ∧ w' = w := by
  go_enter Try.func16, Try.ntmps16
  go_wp2
  go_ret2
  exact ⟨rfl, rfl⟩
theorem ask_nil (w : World) (t k : Int) (a : Bool) : Calls Try.prog 14 #[.pointer none, .int .i64 t, .int .i64 k, .bool a] w fun e w' => e = .returned (.tuple #[.bool false, .int .i64 5]) ∧ w' = w := by
  go_enter Try.func14, Try.ntmps14
  go_wp2
  go_ret2
  exact ⟨rfl, rfl⟩
theorem free_nil (w : World) (t : Int) : Calls Try.prog 12 #[.pointer none, .int .i64 t] w fun e w' => e = .returned (.slice none 0 0) ∧ w' = w := by
  go_enter Try.func12, Try.ntmps12
  go_wp2
  go_ret
  exact ⟨rfl, rfl⟩
end
end Go.Proofs.Ytgldkckhliklhaa
