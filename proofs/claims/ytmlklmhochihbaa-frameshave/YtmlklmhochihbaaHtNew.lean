/- Drop, New. -/
import Derived.Test.YtmlklmhochihbaaHtTouch
namespace Go.Proofs.Ytmlklmhochihbaa
open Go.RowKit

section
variable {w w' : World} {o : Oper} {ρ : Operand → Value}
theorem exec_deleteH {t k : TypeId} {x y : Operand} {u v r : Value} (ho : o.op = .call { callee := .builtin .delete, args := #[x, y], argTypes := #[t, k] }) (hx : ρ x = u) (hy : ρ y = v) (h : (Builtin.delete_ #[t, k] o.type #[u, v]).run Try.prog w = .ok r w') : (execOp ρ o).run Try.prog w = .ok (.value r) w' := by
  unfold execOp
  simp only [ho, resolve, invoke, builtin, Sem.run_bind, Sem.run_pure, Result.andThen_ok, List.map_toArray, List.map_cons, List.map_nil, hx, hy, h]
theorem exec_mkMap {t : TypeId} {r : Value} (ho : o.op = .makeMap t none) (h : (Instr.makeMap t none).run Try.prog w = .ok r w') : (execOp ρ o).run Try.prog w = .ok (.value r) w' := by
  unfold execOp
  simp only [ho, Option.map_none, Sem.run_bind, h, Result.andThen_ok, Sem.run_pure]
end
theorem mk_mapH (w : World) : (Instr.makeMap 108 none).run Try.prog w = .ok (.map (some w.heap.size)) (w.alloc (.map #[] 0)) := by
  simp [Instr.makeMap]
section
variable {w w' : World} {gh gm half now : Nat} {T : Tb} {R : Nat → Prop}
set_option maxRecDepth 100000 in
theorem drop_any (h : HtM w gh gm half now T) {K : Int} (hK : i64 K) : Calls Try.prog 45 #[.pointer (some ⟨gh, 0, none⟩), .int .i64 K] w fun e w' => e = .returned (.tuple #[]) ∧ HtTo w gh gm half now (tdrop T K) w' := by
  have HM := Hid.mk' (made_any h)
  obtain ⟨w6, h5, h6, h7⟩ := h.del hK 0
  have HD := Hid.mk' h5
  have HF : Hid (HtTo w gh gm half now (tdrop T K) w6) := ⟨h6, h7.mono (fun _ _ e => .inr e)⟩
  have c2 : w.cell? ⟨gh, 2, none⟩ = some (.map (some gm)) := h.blk.cell 2
  clear h5 h6 h7 h hK
  go_enter Try.func45, Try.ntmps45
  go_wp2_with fail
  refine Calls.mono HM.out ?_
  rintro e w' ⟨rfl, hw⟩
  have h2 := hw.symm
  subst h2
  clear hw HM
  go_wp2_with (first
    | (refine wpList_runH rfl (exec_deleteH rfl rfl rfl HD.out) ?_)
    | fail)
  go_end0
  exact ⟨rfl, HF.out⟩
theorem new_arg (w : World) (x : Int) (hx : ¬ (1 ≤ x ∧ x ≤ 1000)) :
    Calls Try.prog 43 #[.int .i64 x] w fun e w' => e = .returned (.tuple #[.pointer none, .int .i64 1]) ∧ w' = w := by
  by_cases h1 : x < 1
  · go_enter Try.func43, Try.ntmps43
    go_wp2
    exact bodyPost_ret (results_tmp2 rfl _ _ _) rfl ⟨rfl, rfl⟩
  · have h2 : 1000 < x := by omega
    clear hx
    go_enter Try.func43, Try.ntmps43
    go_wp2
    exact bodyPost_ret (results_tmp2 rfl _ _ _) rfl ⟨rfl, rfl⟩
set_option maxRecDepth 100000 in
theorem new_any (w : World) (half : Nat) (h1 : 1 ≤ half) (h2 : half ≤ 1000) :
    Calls Try.prog 43 #[.int .i64 (half : Int)] w fun e w' => e = .returned (.tuple #[.pointer (some ⟨w.heap.size + 1, 0, none⟩), .int .i64 0]) ∧ HtM w' (w.heap.size + 1) w.heap.size half 0 tnone ∧ Grow w w' := by
  have HMM := Hid.mk' (mk_mapH w)
  obtain ⟨N, hN⟩ : ∃ N : Int, N = (half : Int) := ⟨_, rfl⟩
  obtain ⟨g, hg⟩ : ∃ g, g = w.heap.size := ⟨_, rfl⟩
  obtain ⟨w1, hw1⟩ : ∃ w1, w1 = w.alloc (.map #[] 0) := ⟨_, rfl⟩
  rw [← hg, ← hw1] at HMM
  have s1 : w1.heap.size = g + 1 := by rw [hw1, hg]; simp
  have k1 : Grow w w1 := by rw [hw1]; exact (But.refl _ w).alloc _
  have m1 : Mq Try.prog 3 w1 g [] := by rw [hw1]; exact Mq.new g hg.symm
  have HF : Hid (HtM (w1.alloc (.cells #[.int .i64 N, .int .i64 0, .map (some g)] 110)) (g + 1) g half 0 tnone ∧ Grow w (w1.alloc (.cells #[.int .i64 N, .int .i64 0, .map (some g)] 110))) := by
    have k2 : Grow w1 (w1.alloc (.cells #[.int .i64 N, .int .i64 0, .map (some g)] 110)) := (But.refl _ w1).alloc _
    refine ⟨⟨?_, ⟨[], m1.but k2 (fun h => h), fun p hp => absurd hp List.not_mem_nil, fun K b t e => by cases e⟩, h1, h2, by omega, Tok.none 0⟩, k1.trans k2⟩
    rw [hN]
    exact Blk.new (L := [.int .i64 (half : Int), .int .i64 0, .map (some g)]) s1
  have HS1 := Hid.mk' s1
  have i1 : ¬ (N < 1) := by omega
  have i2 : ¬ (1000 < N) := by omega
  rw [← hg, ← hN]
  clear hN h1 h2 s1 k1 m1 hw1 hg
  go_enter Try.func43, Try.ntmps43
  go_wp2_with (first
    | (refine wpList_runH rfl (exec_mkMap rfl HMM.out) ?_)
    | fail)
  rw [HS1.out]
  exact bodyPost_ret (results_tmp2 rfl _ _ _) rfl ⟨rfl, HF.out⟩
end
end Go.Proofs.Ytmlklmhochihbaa
