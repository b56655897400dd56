/- Slices of numbers; an argument that is one. -/
import Derived.Test.YtehajgfjdmhdpaaOwnOps
import Derived.ProofKit
import Derived.OpenShut
import Derived.ChangeOld
import Derived.Below
namespace Go.Proofs.Ytehajgfjdmhdpaa
open Go.ChangeShapes Go.WideShapes Go.ChangeAt Go.RowKit Go.Deep

/-- The slice v holds these numbers. -/
def Nums (w : World) (v : Value) (fs : List Int) : Prop := (∀ x ∈ fs, -9223372036854775808 ≤ x ∧ x ≤ 9223372036854775807) ∧ fs.length ≤ 140737488355328 ∧ ((fs = [] ∧ (v = .slice none 0 0 ∨ ∃ a cap, v = .slice (some a) 0 cap)) ∨ (0 < fs.length ∧ ∃ b off cap, v = .slice (some ⟨b, off, none⟩) fs.length cap ∧ fs.length ≤ cap ∧ b < w.heap.size ∧ ∀ i, i < fs.length → w.cell? ⟨b, off + i, none⟩ = some (.int .i64 (fs.getD i 0))))
theorem Nums.but {R : Nat → Prop} {w w' : World} {v : Value} {fs : List Int} (h : Nums w v fs) (k : But R w w') (hr : ∀ j, v.ownBlock = some j → j < w.heap.size → ¬ R j) : Nums w' v fs := by
  obtain ⟨h1, h2, h3 | ⟨h0, b, off, cap, rfl, hcap, hb, hc⟩⟩ := h
  · exact ⟨h1, h2, .inl h3⟩
  · exact ⟨h1, h2, .inr ⟨h0, b, off, cap, rfl, hcap, Nat.lt_of_lt_of_le hb k.size, fun i hi => (World.cell?_of_block (k.block b hb (hr b rfl hb))).trans (hc i hi)⟩⟩
theorem Nums.grow {w w' : World} {v : Value} {fs : List Int} (h : Nums w v fs) (k : Grow w w') : Nums w' v fs := h.but k (fun _ _ _ h => h)
theorem Nums.len {w : World} {v : Value} {fs : List Int} (h : Nums w v fs) : ∃ ao cap, v = .slice ao fs.length cap := by
  obtain ⟨h1, h2, ⟨rfl, rfl | ⟨a, cap, rfl⟩⟩ | ⟨h0, b, off, cap, rfl, hb, hc⟩⟩ := h
  · exact ⟨none, 0, rfl⟩
  · exact ⟨some a, cap, rfl⟩
  · exact ⟨_, cap, rfl⟩
theorem Nums.at {w : World} {v : Value} {fs : List Int} (h : Nums w v fs) (h0 : 0 < fs.length) : ∃ b off cap, v = .slice (some ⟨b, off, none⟩) fs.length cap ∧ fs.length ≤ cap ∧ b < w.heap.size ∧ ∀ i, i < fs.length → w.cell? ⟨b, off + i, none⟩ = some (.int .i64 (fs.getD i 0)) := by
  obtain ⟨h1, h2, ⟨rfl, -⟩ | ⟨h0, h3⟩⟩ := h
  · simp at h0
  · exact h3
abbrev numv (ks : List Int) : List Value := ks.map fun k => Value.int .i64 k
theorem infNum : (Try.prog.info? 3).map (fun i => (i.zero, i.size, i.bytes)) = some (some (.int .i64 0), 1, 8) := by kernel_rfl
/-- An own row of numbers. -/
theorem Nums.ofRow {w : World} {base : Nat} {v : Value} {ks : List Int} (h : w.ownsRow base 3 1 v ks.length (numv ks)) (hk : ∀ x ∈ ks, -9223372036854775808 ≤ x ∧ x ≤ 9223372036854775807) (hl : ks.length ≤ 140737488355328) : Nums w v ks := by
  have hc := h
  obtain ⟨h1, ⟨e, h0⟩ | ⟨g, cap, cur, rfl, hg, hh, hcap, r⟩⟩ := h
  · have := List.eq_nil_of_length_eq_zero h0
    exact ⟨hk, hl, .inl ⟨this, .inl e⟩⟩
  · by_cases h0 : ks.length = 0
    · refine ⟨hk, hl, .inl ⟨List.eq_nil_of_length_eq_zero h0, .inr ⟨_, cap, by rw [h0]⟩⟩⟩
    · refine ⟨hk, hl, .inr ⟨by omega, g, 0, cap, rfl, hcap, lt_of_block hh, fun i hi => ?_⟩⟩
      have h2 := hc.cells (g := g) rfl i (.int .i64 (ks.getD i 0)) (by simp [numv, hi])
      have e : (⟨g, 0, none⟩ : Addr).add i = ⟨g, 0 + i, none⟩ := addr_add g 0 i
      rw [e] at h2
      exact h2
/-- Numbers are put behind none. -/
theorem exec_clone {w : World} {o : Oper} {ρ : Operand → Value} {g : Nat} {u : Value} {ks : List Int} {x y : Operand} (ho : o.op = .call { callee := .builtin .append, args := #[x, y], argTypes := #[47, 47] }) (hx : ρ x = .slice (some ⟨g, 0, none⟩) 0 0) (hg : Blk w g 3 []) (hy : ρ y = u) (hu : Nums w u ks) (hl : ks.length ≤ 100000) :
    ∃ v' w', (execOp ρ o).run Try.prog w = .ok (.value v') w' ∧ Nums w' v' ks ∧ (∀ k, v'.ownBlock = some k → k = g ∨ k = w.heap.size) ∧ But (· = g) w w' := by
  have hrow : w.ownsRow 0 3 1 (.slice (some ⟨g, 0, none⟩) 0 0) 0 [] := ⟨rfl, .inr ⟨g, 0, #[], rfl, Nat.zero_le _, hg, Nat.le_refl _, Nat.zero_le _, rfl, rfl⟩⟩
  have key : ∀ (ad : Addr) (c : Nat), u = .slice (some ad) ks.length c → (∀ j z, (numv ks)[j]? = some z → w.cell? (ad.add j) = some z) → ∃ v' w', (execOp ρ o).run Try.prog w = .ok (.value v') w' ∧ Nums w' v' ks ∧ (∀ k, v'.ownBlock = some k → k = g ∨ k = w.heap.size) ∧ But (· = g) w w' := fun ad c e hc => by
    obtain ⟨v', w', hr, ha⟩ := exec_append (news := numv ks) Try.underlying47 infNum rfl (by decide) ho hx hrow (hy.trans e) (by simp [numv]) hc (fun z hz => by obtain ⟨k, -, rfl⟩ := List.mem_map.1 hz; rfl) (by omega) (by decide)
    refine ⟨v', w', hr, Nums.ofRow (base := 0) (by have := ha.own; rw [List.nil_append, Nat.zero_add] at this; exact this) hu.1 hu.2.1, fun k hk => ?_, ha.but.mono (fun b _ e => by
      have e' : some g = some b := e
      exact (Option.some.inj e').symm)⟩
    rcases ha.at' with e2 | e2
    · rw [e2] at hk
      have hk' : some g = some k := hk
      exact .inl (Option.some.inj hk').symm
    · rw [e2] at hk
      exact .inr (Option.some.inj hk).symm
  obtain ⟨h1, h2, ⟨rfl, e | ⟨a, cap, e⟩⟩ | ⟨h0, b, off, cap, e, hcap, hb, hc⟩⟩ := hu
  · obtain ⟨i0, hi, hz0, hz1, hz2⟩ := info_parts infNum
    have hrun := run_append_owned_none (P := Try.prog) w 0 47 o.type 3 i0 1 Try.underlying47 hi _ 0 [] hrow
    refine ⟨.slice (some ⟨g, 0, none⟩) 0 0, w, ?_, ⟨h1, h2, .inl ⟨rfl, .inr ⟨⟨g, 0, none⟩, 0, rfl⟩⟩⟩, fun k hk => ?_, But.refl _ _⟩
    · unfold execOp
      simp only [ho, resolve, invoke, builtin, Sem.run_bind, Sem.run_pure, Result.andThen_ok, List.map_toArray, List.map_cons, List.map_nil, hx, hy, e, hrun]
    · have hk' : some g = some k := hk
      exact .inl (Option.some.inj hk').symm
  · exact key a cap e (fun j z hz => by simp [numv] at hz)
  · refine key ⟨b, off, none⟩ cap e (fun j z hz => ?_)
    have hj : j < ks.length := by
      rcases Nat.lt_or_ge j ks.length with h | h
      · exact h
      · rw [List.getElem?_eq_none (by simpa [numv] using h)] at hz; cases hz
    rw [addr_add, hc j hj, ← hz]
    simp [numv, hj]
theorem i64slice : Try.prog.underlying 47 = some (.slice (Try.prog.elem 47)) := by kernel_rfl
/-- A slice from its second number on. -/
theorem cut_one {b off n cap : Nat} (hc : n + 1 ≤ cap) : ∃ A c, (∀ w0 : World, (Instr.sliceAt 47 (.slice (some ⟨b, off, none⟩) (n + 1) cap) (some (.int .i64 1)) none none).run Try.prog w0 = .ok (.slice (some A) n c) w0) ∧ (0 < n → A = ⟨b, off + 1, none⟩) := by
  have he : Try.prog.elem 47 = 3 := by kernel_rfl
  have hs : ∀ w0 : World, (sizeOf 3).run Try.prog w0 = .ok 1 w0 := fun w0 => by kernel_rfl
  refine ⟨if cap = 1 then ⟨b, off, none⟩ else ⟨b, off + 1, none⟩, cap - 1, fun w0 => ?_, fun h => by rw [if_neg (by omega)]⟩
  rw [run_sliceAt_slice _ _ _ _ _ _ i64slice, run_slice_l w0 _ _ _ _ i64slice .i64 1 (by omega) (by omega), he, hs]
  by_cases hcn : cap = 1 <;> simp [Result.andThen, sliced, hcn, Addr.add]
section
variable {H : Type} {enc : TypeId × Value → H} {P : Program} {w : World} {base : Nat} {spare : Nat → Bool} {held : Bool}
theorem view_nums {t e : TypeId} {v : Value} {d : DataW H} {ps : List MemPlace} {r : Reach} {b0 : Nat} {ts : List TypeId} {ds : List (DataW H)} {j : Nat}
    (hu : P.underlying t = some (.slice e)) (hf : P.underlying e = some (.int .i64)) (hc : P.cellsOf e = 1) (hb : P.bytesOf e = 8)
    (hval : Value.okWide P w r b0 t v) (h : DataW.Trod enc P w base spare held t v d ps) (hlt : ∀ x ∈ ps, x.block < w.heap.size)
    (hsz : (DataW.weightsEach P ts ds).all (· ≤ reachBytes) = true) (ht : ts[j]? = some t) (hd : ds[j]? = some d) : ∃ fs, Nums w v fs := by
  obtain ⟨a0, len, cap, rfl⟩ := okWide_slice hu hval
  obtain ⟨fuel, hf1⟩ := h
  rcases open_slice1 hu hc hf1 with ⟨hcs, _⟩ | ⟨a, len', cap', m, n, V, D, Pl, hcs, _, hl, hm, hmm, hx, hcell⟩
  · simp [Value.cells] at hcs
    obtain ⟨rfl, rfl, rfl⟩ := hcs
    exact ⟨[], nofun, by simp, .inl ⟨rfl, .inl rfl⟩⟩
  · simp [Value.cells] at hcs
    obtain ⟨rfl, rfl, rfl⟩ := hcs
    simp only [Prod.mk.injEq] at hx
    obtain ⟨rfl, rfl⟩ := hx
    have hlm : len ≤ m := by rw [hmm]; split <;> omega
    have hreach : len * 8 ≤ 140737488351232 := by
      have := sized_slice hsz ht hd hu
      rw [hb] at this
      simp only [List.length_map, List.length_range, reachBytes] at this
      omega
    have hfl : ∀ i, i < len → ∃ b : Int, V i = .int .i64 b ∧ -9223372036854775808 ≤ b ∧ b ≤ 9223372036854775807 := by
      intro i hi
      obtain ⟨b, hb1, _, hw0⟩ := DataW.trod_int hf (hcell i (by omega)).2
      have h8 : IntKind.i64.min ≤ b ∧ b ≤ IntKind.i64.max := by simpa [Lit.wf, go_sem] using hw0
      have e1 : IntKind.i64.min = -9223372036854775808 := rfl
      have e2 : IntKind.i64.max = 9223372036854775807 := rfl
      simp only [List.cons.injEq, and_true] at hb1
      exact ⟨b, hb1, by omega, by omega⟩
    obtain ⟨B, hB⟩ := choose_lt (α := Int) (p := fun i b => V i = .int .i64 b ∧ -9223372036854775808 ≤ b ∧ b ≤ 9223372036854775807) hfl
    refine ⟨(List.range len).map B, ?_, by simp; omega, ?_⟩
    · intro z hz
      obtain ⟨i, hi, rfl⟩ := List.mem_map.1 hz
      exact (hB i (by simpa using hi)).2
    · by_cases h0 : len = 0
      · subst h0; exact .inl ⟨by simp, .inr ⟨_, _, rfl⟩⟩
      · right
        obtain ⟨b, off, spot⟩ := a
        have hspot : spot = none := by simpa [Addr.add] using World.cell?_spot (hcell 0 (by omega)).1
        subst hspot
        refine ⟨by simp; omega, b, off, cap, by simp, by simpa using hl, hlt (.cell b off) (List.mem_append_left _ (MemPlace.mem_row.2 ⟨0, by omega, by simp⟩)), ?_⟩
        intro i hi
        have hi' : i < len := by simpa using hi
        rw [← add_plain, (hcell i (by omega)).1, (hB i hi').1]
        simp [hi']
end
end Go.Proofs.Ytehajgfjdmhdpaa
