/- Bytes, Blocks, RefBytes, Sizes, Vals, FieldMath, FieldTimes, AesMath, Draws, Lasts, Stages, Classes. -/
import Derived.Test.YthmjdebnjcopnaaRows
import Derived.WalkKit
import Derived.ProofKit
import Derived.ChangeArms
import Derived.SizedLaws
import Derived.Deep.Slices
import Derived.WalkLawsBesides
import Derived.Below
import Derived.OneCell
import Derived.OwnWalk
import Derived.Laws.BitsAllLaws
import Derived.Laws.CopyOwn
import Derived.Deep.QuietTactic
import Derived.BigQuiet
import Derived.RegionTactic
import Derived.Laws.Cover3
import Derived.Laws.Pointers
import Derived.WalkSpells
import Derived.Orders
/- What a walk is told of bytes: a slice that holds them (whoever's it is), a slice that is the call's own, and what stays where only some blocks turn. -/
namespace Go.Proofs.Ythmjdebnjcopnaa
open Go.ChangeShapes Go.WideShapes Go.ChangeAt Go.RowKit Go.Deep

/-- Bytes as values. -/
abbrev u8s (zs : List Nat) : List Value := zs.map fun (z : Nat) => Value.int .u8 (z : Int)

/-- Of what was there only the blocks of R turn. -/
structure But (R : Nat → Prop) (w w' : World) : Prop where
  os : w'.os = w.os
  tape : w'.tape = w.tape
  output : w'.output = w.output
  size : w.heap.size ≤ w'.heap.size
  block : ∀ k, k < w.heap.size → ¬ R k → w'.heap[k]? = w.heap[k]?

theorem But.refl (R : Nat → Prop) (w : World) : But R w w := ⟨rfl, rfl, rfl, Nat.le_refl _, fun _ _ _ => rfl⟩
theorem But.trans {R : Nat → Prop} {a b c : World} (h : But R a b) (k : But R b c) : But R a c :=
  ⟨k.os.trans h.os, k.tape.trans h.tape, k.output.trans h.output, Nat.le_trans h.size k.size, fun i hi hr => (k.block i (Nat.lt_of_lt_of_le hi h.size) hr).trans (h.block i hi hr)⟩
theorem But.mono {R S : Nat → Prop} {a b : World} (h : But R a b) (hs : ∀ k, k < a.heap.size → R k → S k) : But S a b :=
  ⟨h.os, h.tape, h.output, h.size, fun i hi hn => h.block i hi (fun hr => hn (hs i hi hr))⟩
/-- The later part may turn what is new to the first world. -/
theorem But.then {R S : Nat → Prop} {a b c : World} (h : But R a b) (k : But S b c) (hs : ∀ i, i < a.heap.size → S i → R i) : But R a c :=
  ⟨k.os.trans h.os, k.tape.trans h.tape, k.output.trans h.output, Nat.le_trans h.size k.size, fun i hi hr => (k.block i (Nat.lt_of_lt_of_le hi h.size) (fun h' => hr (hs i hi h'))).trans (h.block i hi hr)⟩
theorem But.alloc {R : Nat → Prop} {a w : World} (h : But R a w) (o : Obj) : But R a (w.alloc o) :=
  ⟨h.os, h.tape, h.output, by simp; exact Nat.le_succ_of_le h.size, fun k hk hr => (Below.heap_alloc w o k (Nat.lt_of_lt_of_le hk h.size)).trans (h.block k hk hr)⟩
theorem But.drew {R : Nat → Prop} {a w : World} (h : But R a w) : But R a w.drew := ⟨h.os, h.tape, h.output, h.size, h.block⟩
theorem But.setCell {R : Nat → Prop} {a w : World} (h : But R a w) {p : Addr} (hp : p.block < a.heap.size → R p.block) (u : Value) : But R a (w.setCell p u) :=
  ⟨h.os, h.tape, h.output, by simpa using h.size, fun k hk hr => (Below.heap_setCell w p u k (fun e => hr (by rw [e]; exact hp (by rw [← e]; exact hk)))).trans (h.block k hk hr)⟩
theorem But.grown {R : Nat → Prop} {a w w' : World} {row : Option Nat} (h : But R a w) (hg : w.grownBy w' row) (hr : ∀ k, row = some k → k < a.heap.size → R k) : But R a w' :=
  ⟨hg.os.trans h.os, hg.tape.trans h.tape, hg.output.trans h.output, Nat.le_trans h.size hg.size, fun k hk hn => (hg.block k (Nat.lt_of_lt_of_le hk h.size) (fun e => hn (hr k e.symm hk))).trans (h.block k hk hn)⟩
theorem But.below {R : Nat → Prop} {B : Nat} {w w' : World} (h : But R w w') (hB : B ≤ w.heap.size) (hr : ∀ k, k < B → ¬ R k) : Below B w w' :=
  ⟨h.os, h.tape, h.output, h.size, fun k hk => h.block k (Nat.lt_of_lt_of_le hk hB) (hr k hk)⟩
theorem But.of {R : Nat → Prop} {w w' : World} (h : Below w.heap.size w w') : But R w w' := ⟨h.os, h.tape, h.output, h.size, fun k hk _ => h.block k hk⟩

/-- The slice v holds the bytes zs. -/
def Bs (w : World) (v : Value) (zs : List Nat) : Prop :=
  (∀ z ∈ zs, z < 256) ∧ zs.length ≤ 281474976710656 ∧
  ((zs = [] ∧ (v = .slice none 0 0 ∨ ∃ a cap, v = .slice (some a) 0 cap)) ∨
   (0 < zs.length ∧ ∃ b off cap, v = .slice (some ⟨b, off, none⟩) zs.length cap ∧ zs.length ≤ cap ∧ b < w.heap.size ∧
      ∀ i, i < zs.length → w.cell? ⟨b, off + i, none⟩ = some (.int .u8 (zs.getD i 0 : Nat))))

theorem Bs.keep {w w' : World} {v : Value} {zs : List Nat} (h : Bs w v zs) (hs : w.heap.size ≤ w'.heap.size) (hk : ∀ k, v.ownBlock = some k → k < w.heap.size → w'.heap[k]? = w.heap[k]?) : Bs w' v zs := by
  obtain ⟨h1, h2, h3⟩ := h
  refine ⟨h1, h2, ?_⟩
  rcases h3 with h3 | ⟨h0, b, off, cap, rfl, hcap, hb, hc⟩
  · exact .inl h3
  · exact .inr ⟨h0, b, off, cap, rfl, hcap, by omega, fun i hi => (World.cell?_of_block (hk b rfl hb)).trans (hc i hi)⟩
theorem Bs.but {R : Nat → Prop} {w w' : World} {v : Value} {zs : List Nat} (h : Bs w v zs) (k : But R w w') (hr : ∀ j, v.ownBlock = some j → j < w.heap.size → ¬ R j) : Bs w' v zs :=
  h.keep k.size fun j e hj => k.block j hj (hr j e hj)
theorem Bs.below {w w' : World} {v : Value} {zs : List Nat} (h : Bs w v zs) (k : Below w.heap.size w w') : Bs w' v zs :=
  h.keep k.size fun j _ hj => k.block j hj
theorem Bs.nil (w : World) : Bs w (.slice none 0 0) [] := ⟨by simp, by simp, .inl ⟨rfl, .inl rfl⟩⟩

/-- The slice v holds the bytes zs, and is the call's own (of base or behind it). -/
structure Ow (w : World) (base : Nat) (v : Value) (zs : List Nat) : Prop where
  lt : ∀ z ∈ zs, z < 256
  len : zs.length ≤ 281474976710656
  own : w.ownsRow base 5 1 v zs.length (u8s zs)

theorem Ow.ge {w : World} {base : Nat} {v : Value} {zs : List Nat} (h : Ow w base v zs) : ∀ k, v.ownBlock = some k → base ≤ k ∧ k < w.heap.size := h.own.lt
theorem Ow.mono {w : World} {base base' : Nat} {v : Value} {zs : List Nat} (h : Ow w base v zs) (hb : base' ≤ base) : Ow w base' v zs := by
  obtain ⟨h1, h2, h3, h4⟩ := h
  refine ⟨h1, h2, h3, ?_⟩
  rcases h4 with h4 | ⟨g, cap, cur, e, hg, r⟩
  · exact .inl h4
  · exact .inr ⟨g, cap, cur, e, by omega, r⟩
theorem Ow.but {R : Nat → Prop} {w w' : World} {base : Nat} {v : Value} {zs : List Nat} (h : Ow w base v zs) (k : But R w w') (hr : ∀ j, v.ownBlock = some j → j < w.heap.size → ¬ R j) : Ow w' base v zs := by
  obtain ⟨h1, h2, h3, h4⟩ := h
  refine ⟨h1, h2, h3, ?_⟩
  rcases h4 with h4 | ⟨g, cap, cur, rfl, hg, hh, r⟩
  · exact .inl h4
  · have hlt := lt_of_block hh
    exact .inr ⟨g, cap, cur, rfl, hg, (k.block g hlt (hr g rfl hlt)).trans hh, r⟩
theorem Ow.nil (w : World) (base : Nat) : Ow w base (.slice none 0 0) [] := ⟨by simp, by simp, World.ownsRow_nil _ _ _ _⟩

theorem u8s_get (zs : List Nat) (i : Nat) (h : i < zs.length) : (u8s zs)[i]? = some (.int .u8 (zs.getD i 0 : Nat)) := by
  simp [u8s, h]
theorem u8s_one (zs : List Nat) : ∀ u ∈ u8s zs, u.oneCell' = true := by
  intro u hu; obtain ⟨z, _, rfl⟩ := List.mem_map.1 hu; rfl
theorem getD_mem (zs : List Nat) (i : Nat) (h : i < zs.length) : zs.getD i 0 ∈ zs := by
  simp [List.getD, List.getElem?_eq_getElem h]

/-- An own slice's shape. -/
theorem Ow.shape {w : World} {base : Nat} {v : Value} {zs : List Nat} (h : Ow w base v zs) :
    (v = .slice none 0 0 ∧ zs = []) ∨ ∃ g cap, v = .slice (some ⟨g, 0, none⟩) zs.length cap ∧ zs.length ≤ cap ∧ base ≤ g ∧ g < w.heap.size ∧ (∀ j, w.frozen? ⟨g, j, none⟩ = false) ∧
      ∀ i, i < zs.length → w.cell? ⟨g, i, none⟩ = some (.int .u8 (zs.getD i 0 : Nat)) := by
  have h' := h.own
  obtain ⟨h1, h2, h3, h4⟩ := h
  rcases h4 with ⟨rfl, h0⟩ | ⟨g, cap, cur, rfl, hg, hh, hcap, _, _, _⟩
  · exact .inl ⟨rfl, List.eq_nil_of_length_eq_zero h0⟩
  · refine .inr ⟨g, cap, rfl, hcap, hg, lt_of_block hh, fun j => h'.frozenAt j, fun i hi => ?_⟩
    rw [h'.cellAt i (by omega), u8s_get zs i hi]
theorem Ow.bs {w : World} {base : Nat} {v : Value} {zs : List Nat} (h : Ow w base v zs) : Bs w v zs := by
  refine ⟨h.lt, h.len, ?_⟩
  rcases h.shape with ⟨rfl, rfl⟩ | ⟨g, cap, rfl, hcap, _, hg, _, hc⟩
  · exact .inl ⟨rfl, .inl rfl⟩
  · by_cases h0 : zs.length = 0
    · have := List.eq_nil_of_length_eq_zero h0
      subst this
      exact .inl ⟨rfl, .inr ⟨_, _, rfl⟩⟩
    · exact .inr ⟨by omega, g, 0, cap, rfl, hcap, hg, fun i hi => by rw [Nat.zero_add]; exact hc i hi⟩

section
variable {H : Type} {enc : TypeId × Value → H} {P : Program} {w : World} {base : Nat} {spare : Nat → Bool} {held : Bool}

/-- Bytes that came in. -/
theorem view_bytes {t e : TypeId} {v : Value} {d : DataW H} {ps : List MemPlace} {r : Reach} {b0 : Nat} {ts : List TypeId} {ds : List (DataW H)} {j : Nat}
    (hu : P.underlying t = some (.slice e)) (hf : P.underlying e = some (.int .u8)) (hc : P.cellsOf e = 1) (hb : P.bytesOf e = 1)
    (hval : Value.okWide P w r b0 t v) (h : DataW.Trod enc P w base spare held t v d ps) (hlt : ∀ x ∈ ps, x.block < w.heap.size)
    (hsz : (DataW.weightsEach P ts ds).all (· ≤ reachBytes) = true) (ht : ts[j]? = some t) (hd : ds[j]? = some d) : ∃ zs, Bs w v zs ∧ zs.length ≤ 140737488351232 := by
  obtain ⟨a0, len, cap, rfl⟩ := okWide_slice hu hval
  obtain ⟨fuel, hf1⟩ := h
  rcases open_slice1 hu hc hf1 with ⟨hcs, _⟩ | ⟨a, len', cap', m, n, V, D, Pl, hcs, _, hl, hm, hmm, hx, hcell⟩
  · simp [Value.cells] at hcs
    obtain ⟨rfl, rfl, rfl⟩ := hcs
    exact ⟨[], Bs.nil _, by simp⟩
  · simp [Value.cells] at hcs
    obtain ⟨rfl, rfl, rfl⟩ := hcs
    simp only [Prod.mk.injEq] at hx
    obtain ⟨rfl, rfl⟩ := hx
    have hlm : len ≤ m := by rw [hmm]; split <;> omega
    have hreach : len * 1 ≤ 140737488351232 := by
      have := sized_slice hsz ht hd hu
      rw [hb] at this
      simp only [List.length_map, List.length_range, reachBytes] at this
      omega
    have hfl : ∀ i, i < len → ∃ b : Nat, V i = .int .u8 (b : Int) ∧ b < 256 := by
      intro i hi
      obtain ⟨b, hb1, _, hw0⟩ := DataW.trod_int hf (hcell i (by omega)).2
      obtain ⟨hw, hw2⟩ : 0 ≤ b ∧ b < 256 := by
        have h8 : IntKind.u8.min ≤ b ∧ b ≤ IntKind.u8.max := by simpa [Lit.wf, go_sem] using hw0
        have e1 : IntKind.u8.min = 0 := rfl
        have e2 : IntKind.u8.max = 255 := rfl
        omega
      simp only [List.cons.injEq, and_true] at hb1
      exact ⟨b.toNat, by rw [hb1, Int.toNat_of_nonneg hw], by omega⟩
    obtain ⟨B, hB⟩ := choose_lt (α := Nat) (p := fun i b => V i = .int .u8 (b : Int) ∧ b < 256) hfl
    refine ⟨(List.range len).map B, ⟨?_, by simp; omega, ?_⟩, by simpa using hreach⟩
    · intro z hz
      obtain ⟨i, hi, rfl⟩ := List.mem_map.1 hz
      exact (hB i (by simpa using hi)).2
    · by_cases h0 : len = 0
      · subst h0; exact .inl ⟨by simp, .inr ⟨_, _, rfl⟩⟩
      · right
        obtain ⟨b, off, spot⟩ := a
        have hspot : spot = none := by simpa [Addr.add] using World.cell?_spot (hcell 0 (by omega)).1
        subst hspot
        refine ⟨by simp; omega, b, off, cap, by simp, by simpa using hl, hlt (.cell b off) (List.mem_append_left _ (MemPlace.mem_row.2 ⟨0, by omega, by simp⟩)), ?_⟩
        intro i hi
        have hi' : i < len := by simpa using hi
        rw [← add_plain, (hcell i (by omega)).1, (hB i hi').1]
        simp [hi']
end
end Go.Proofs.Ythmjdebnjcopnaa
/- Blocks of cells (as ShaPut, ShaMem, ShaSum and MacBlock have them; for cuts without these). -/
namespace Go.Proofs.Ythmjdebnjcopnaa
open Go.RowKit

theorem Hid.mk' {p : Prop} (h : p) : Hid p := h
/-- A block of these cells. -/
def Blk (w : World) (g : Nat) (T : TypeId) (L : List Value) : Prop := w.heap[g]? = some (.cells L.toArray T (0, 0))
theorem Blk.set {w : World} {g : Nat} {T : TypeId} {L : List Value} (h : Blk w g T L) (i : Nat) (v : Value) : Blk (w.setCell ⟨g, i, none⟩ v) g T (L.set i v) := by
  unfold Blk at h ⊢
  rw [heap_setCell_same w g i _ _ _ h]
  simp
theorem Blk.cell {w : World} {g : Nat} {T : TypeId} {L : List Value} (h : Blk w g T L) (i : Nat) : w.cell? ⟨g, i, none⟩ = L[i]? := by
  rw [cell_of_row w g i _ _ _ h]; simp
theorem Blk.free {w : World} {g : Nat} {T : TypeId} {L : List Value} (h : Blk w g T L) (i : Nat) : w.frozen? ⟨g, i, none⟩ = false := frozen_of_row w g i _ _ h
theorem Blk.but {R : Nat → Prop} {w w' : World} {g : Nat} {T : TypeId} {L : List Value} (h : Blk w g T L) (k : But R w w') (hr : ¬ R g) : Blk w' g T L := (k.block g (lt_of_block h) hr).trans h
theorem Blk.lt {w : World} {g : Nat} {T : TypeId} {L : List Value} (h : Blk w g T L) : g < w.heap.size := lt_of_block h

theorem Blk.new {w : World} {g : Nat} {T : TypeId} {L : List Value} (h : w.heap.size = g) : Blk (w.alloc (.cells L.toArray T)) g T L := by
  subst h; exact heap_alloc_new _ _
theorem run_storeVar_at (w : World) (g off : Nat) (t ty : TypeId) (A old B vs : List Value) (hb : Blk w g t (A ++ old ++ B)) (hA : A.length = off) (ho : old.length = vs.length) (hi : (Try.prog.info? ty).map (·.size) = some vs.length)
    (h1 : ∀ v ∈ vs, v.oneCell' = true) : ∃ w', (storeVar ty ⟨g, off, none⟩ (.agg vs.toArray)).run Try.prog w = .ok () w' ∧ Blk w' g t (A ++ vs ++ B) ∧ But (· = g) w w' := by
  have hst := run_storeCells_at (P := Try.prog) g off t vs 0 _ w hb (by simp; omega) h1
  refine ⟨_, ?_, setRow_heap w g _ _ t _ hb, ⟨rfl, rfl, rfl, by simp, fun k _ hk => setRow_other w g k _ (fun e => hk (by rw [e]))⟩⟩
  have e : (A ++ old ++ B).toArray.toList.take (off + 0) ++ vs ++ (A ++ old ++ B).toArray.toList.drop (off + 0 + vs.length) = A ++ vs ++ B := by
    subst hA
    rw [← ho]
    simp [List.drop_append]
  rw [e] at hst
  cases hq : Try.prog.info? ty with
  | none => simp [hq] at hi
  | some i =>
    have hs : vs.length = i.size := by simp [hq] at hi; omega
    simp [storeVar, sizeOf, typeInfo, hq, Value.cells, hs, hst]
theorem wpList_store_at {w : World} {ops : Array Oper} {rest : List Oper} {o : Oper} {a : Act} {Q : Exit → Act → World → Prop} (hgd : o.guard = none) (ty : TypeId) (x y : Operand) (ho : o.op = .store ty x y)
    (g off : Nat) (vs : List Value) (hx : a.eval x = .pointer (some ⟨g, off, none⟩)) (hy : a.eval y = .agg vs.toArray)
    (t : TypeId) (A old B : List Value) (hb : Blk w g t (A ++ old ++ B)) (hA : A.length = off) (hold : old.length = vs.length) (hi : (Try.prog.info? ty).map (·.size) = some vs.length)
    (h1 : ∀ v ∈ vs, v.oneCell' = true) (h : ∀ w', Blk w' g t (A ++ vs ++ B) → But (· = g) w w' → wpList Try.prog ops Q rest (a.put o.dst undef) w') : wpList Try.prog ops Q (o :: rest) a w :=
  wpList_plain hgd fun _ hK => by
    obtain ⟨w', hr, hbl, hbt⟩ := run_storeVar_at w g off t ty A old B vs hb hA hold hi h1
    unfold Oper.wp execOp
    simp only [ho, hx, hy, Instr.storeAt, Instr.sureAddr, Sem.run_bind, Sem.run_pure, Result.andThen_ok, hr]
    exact hK _ _ (h w' hbl hbt)
theorem Blk.row {w : World} {g : Nat} {t : TypeId} {L : List Value} (h : Blk w g t L) (M : List Value) : Blk (w.setRow g M.toArray) g t M := setRow_heap w g _ _ t _ h
theorem But.setRow {R : Nat → Prop} {a w : World} (h : But R a w) {g : Nat} (hg : g < a.heap.size → R g) (c : Array Value) : But R a (w.setRow g c) :=
  ⟨h.os, h.tape, h.output, by simp; exact h.size, fun k hk hr => (setRow_other w g k _ (fun e => hr (by rw [e]; exact hg (by rw [← e]; exact hk)))).trans (h.block k hk hr)⟩
/-- A whole array of bytes into a variable that is made for it. -/
theorem wpList_store_u8s {T : TypeId} {n : Nat} (hi : (Try.prog.info? T).map (·.size) = some n) {w : World} {ops : Array Oper} {rest : List Oper} {o : Oper} {a : Act} {Q : Exit → Act → World → Prop} (hgd : o.guard = none) (x y : Operand) (ho : o.op = .store T x y)
    (g : Nat) (D : List Nat) (hD : D.length = n) (hx : a.eval x = .pointer (some ⟨g, 0, none⟩)) (hy : a.eval y = .agg (u8s D).toArray) (L : List Value) (hL : L.length = n) (hb : Blk w g T L)
    (h : ∀ w', Blk w' g T (u8s D) → But (· = g) w w' → wpList Try.prog ops Q rest (a.put o.dst undef) w') : wpList Try.prog ops Q (o :: rest) a w := by
  refine wpList_store_at hgd T x y ho g 0 (u8s D) hx hy T [] L [] (by simpa using hb) rfl (by simp [u8s, hD, hL]) (by rw [hi]; simp [u8s, hD]) (u8s_one _) ?_
  intro w' hb' hb2
  exact h w' (by simpa using hb') hb2
/-- A whole array of bytes out of a variable. -/
theorem wpList_load_u8s {T : TypeId} {n : Nat} {l : Nat} {e : TypeId} (hu : Try.prog.underlying T = some (.array l e)) (hi : (Try.prog.info? T).map (·.size) = some n)
    {w : World} {ops : Array Oper} {rest : List Oper} {o : Oper} {a : Act} {Q : Exit → Act → World → Prop} (hgd : o.guard = none) (x : Operand) (ho : o.op = .load T x)
    (g : Nat) (D : List Nat) (hD : D.length = n) (hx : a.eval x = .pointer (some ⟨g, 0, none⟩)) (hb : Blk w g T (u8s D))
    (h : wpList Try.prog ops Q rest (a.put o.dst (.agg (u8s D).toArray)) w) : wpList Try.prog ops Q (o :: rest) a w :=
  wpList_load_row hgd T x ho g hx T _ (0, 0) _ hb hu rfl (by rw [hi]; simp [u8s, hD]) h
theorem u8s_set (L : List Nat) (k x : Nat) : (u8s L).set k (.int .u8 (x : Int)) = u8s (L.set k x) := by simp [u8s, List.map_set]
theorem But.drewN {R : Nat → Prop} {a w : World} (h : But R a w) {n : Nat} : But R a (w.drewN n) := ⟨h.os, h.tape, h.output, h.size, h.block⟩
/-- A whole array of bytes into a variable, as one operation. -/
theorem op_store_u8s {T : TypeId} {n : Nat} (hi : (Try.prog.info? T).map (·.size) = some n) {w : World} {o : Oper} {a : Act} {K : Act → World → Prop} {Q : Exit → Act → World → Prop} (x y : Operand) (ho : o.op = .store T x y)
    (g : Nat) (D : List Nat) (hD : D.length = n) (hx : a.eval x = .pointer (some ⟨g, 0, none⟩)) (hy : a.eval y = .agg (u8s D).toArray) (L : List Value) (hL : L.length = n) (hb : Blk w g T L)
    (h : ∀ w', Blk w' g T (u8s D) → But (· = g) w w' → K (a.put o.dst undef) w') : o.wp Try.prog a w K Q := by
  obtain ⟨w', hr, hbl, hbt⟩ := run_storeVar_at w g 0 T T [] L [] (u8s D) (by simpa using hb) rfl (by simp [u8s, hD, hL]) (by rw [hi]; simp [u8s, hD]) (u8s_one _)
  unfold Oper.wp execOp
  simp only [ho, hx, hy, Instr.storeAt, Instr.sureAddr, Sem.run_bind, Sem.run_pure, Result.andThen_ok, hr]
  exact h w' (by simpa using hbl) hbt
/-- A whole array of bytes out of a variable, as one operation. -/
theorem op_load_u8s {T : TypeId} {n l : Nat} {e : TypeId} (hu : Try.prog.underlying T = some (.array l e)) (hi : (Try.prog.info? T).map (·.size) = some n)
    {w : World} {o : Oper} {a : Act} {K : Act → World → Prop} {Q : Exit → Act → World → Prop} (x : Operand) (ho : o.op = .load T x)
    (g : Nat) (D : List Nat) (hD : D.length = n) (hx : a.eval x = .pointer (some ⟨g, 0, none⟩)) (hb : Blk w g T (u8s D))
    (h : K (a.put o.dst (.agg (u8s D).toArray)) w) : o.wp Try.prog a w K Q :=
  wp_load_row T x ho g hx T _ (0, 0) _ hb hu rfl (by rw [hi]; simp [u8s, hD]) h
theorem run_loadVar_cells (w : World) (ad : Addr) (ty : TypeId) (cs : List Value) (d : TypeDesc) (hc : ∀ j v, cs[j]? = some v → w.cell? (ad.add j) = some v)
    (hu : Try.prog.underlying ty = some d) (hd : (match d with | .struct _ | .array _ _ => true | _ => false) = true) (hi : (Try.prog.info? ty).map (·.size) = some cs.length) :
    (loadVar ty ad).run Try.prog w = .ok (.agg cs.toArray) w := by
  have hl : (loadCells ad cs.length).run Try.prog w = .ok cs.toArray w := run_loadCells_list (P := Try.prog) w ad cs hc
  cases hq : Try.prog.info? ty with
  | none => simp [hq] at hi
  | some i =>
    have hs : i.size = cs.length := by simpa [hq] using hi
    have hagg : (isAgg ty).run Try.prog w = .ok true w := by
      unfold isAgg
      rw [Sem.run_bind, run_underlying hu w]
      cases d <;> simp_all
    simp [loadVar, Sem.run_bind, hagg, sizeOf, typeInfo, hq, hs, hl]
theorem wpList_load_cells {ops : Array Oper} {rest : List Oper} {o : Oper} {a : Act} {w : World} {Q : Exit → Act → World → Prop} (hgd : o.guard = none) (ty : TypeId) (x : Operand) (ho : o.op = .load ty x)
    (ad : Addr) (hx : a.eval x = .pointer (some ad)) (cs : List Value) (d : TypeDesc) (hc : ∀ j v, cs[j]? = some v → w.cell? (ad.add j) = some v)
    (hu : Try.prog.underlying ty = some d) (hd : (match d with | .struct _ | .array _ _ => true | _ => false) = true) (hi : (Try.prog.info? ty).map (·.size) = some cs.length)
    (h : wpList Try.prog ops Q rest (a.put o.dst (.agg cs.toArray)) w) : wpList Try.prog ops Q (o :: rest) a w :=
  wpList_plain hgd fun _ hK => by
    unfold Oper.wp execOp
    simp only [ho, hx, Instr.loadAt, Instr.sureAddr, Sem.run_bind, Sem.run_pure, Result.andThen_ok, run_loadVar_cells w ad ty cs d hc hu hd hi]
    exact hK _ _ h
end Go.Proofs.Ythmjdebnjcopnaa
/- The reference's bytes: Same, Copy, Lent, Kept. -/
namespace Go.Proofs.Ythmjdebnjcopnaa
open Go.RowKit

theorem u8info : (Try.prog.info? 5).map (fun i => (i.zero, i.size, i.bytes)) = some (some (.int .u8 0), 1, 1) := by kernel_rfl

theorem take_next' (l : List Nat) (k : Nat) (h : k < l.length) : l.take (k + 1) = l.take k ++ [l.getD k 0] := by
  rw [List.take_succ_eq_append_getElem h]; simp [List.getD, List.getElem?_eq_getElem h]
theorem getD_of_eq {l m : List Nat} (h : l = m) (i : Nat) : l.getD i 0 = m.getD i 0 := by rw [h]
theorem eq_of_getD {l m : List Nat} {n : Nat} (h1 : l.length = n) (h2 : m.length = n) (h : l.take n = m.take n) : l = m := by
  rw [List.take_of_length_le (by omega), List.take_of_length_le (by omega)] at h; exact h

theorem same_lens (a0 a1 : Option Addr) (n m c0 c1 : Nat) (h : n ≠ m) (w : World) :
    Calls Try.prog 16 #[.slice a0 n c0, .slice a1 m c1] w fun e w' => e = .returned (.bool false) ∧ w' = w := by
  have h' : ¬ ((n : Int) = (m : Int)) := by omega
  go_enter Try.func16, Try.ntmps16
  go_wp2
  go_ret
  exact ⟨rfl, rfl⟩
theorem same_none (a0 a1 : Option Addr) (c0 c1 : Nat) (w : World) :
    Calls Try.prog 16 #[.slice a0 0 c0, .slice a1 0 c1] w fun e w' => e = .returned (.bool true) ∧ w' = w := by
  go_enter Try.func16, Try.ntmps16
  go_wp2
  refine wp_loop_rounds 1 ?_
  rw [rounds_succ]
  go_wp2
  go_ret
  exact ⟨rfl, rfl⟩
theorem same_some (b0 o0 c0 b1 o1 c1 n : Nat) (xs ys : List Nat) (w : World) (hx : xs.length = n) (hy : ys.length = n) (hn : n ≤ 281474976710656)
    (hc0 : ∀ i, i < n → w.cell? ⟨b0, o0 + i, none⟩ = some (.int .u8 (xs.getD i 0 : Nat))) (hc1 : ∀ i, i < n → w.cell? ⟨b1, o1 + i, none⟩ = some (.int .u8 (ys.getD i 0 : Nat))) :
    Calls Try.prog 16 #[.slice (some ⟨b0, o0, none⟩) n c0, .slice (some ⟨b1, o1, none⟩) n c1] w fun e w' => e = .returned (.bool (decide (xs = ys))) ∧ ∃ d, w' = w.drewN d := by
  have HX : Hid (xs.length = n) := hx
  have HY : Hid (ys.length = n) := hy
  have H0 : Hid (∀ i, i < n → w.cell? ⟨b0, o0 + i, none⟩ = some (.int .u8 (xs.getD i 0 : Nat))) := hc0
  have H1 : Hid (∀ i, i < n → w.cell? ⟨b1, o1 + i, none⟩ = some (.int .u8 (ys.getD i 0 : Nat))) := hc1
  clear hx hy hc0 hc1
  go_enter Try.func16, Try.ntmps16
  go_wp2
  go_loopw [5] (fun i wr => ∃ k d : Nat, k ≤ n ∧ i = .int .i64 k ∧ xs.take k = ys.take k ∧ wr = w.drewN d) (fun i _ => n - (intOf i).toNat)
  case atStart => exact ⟨0, 0, Nat.zero_le _, rfl, rfl, rfl⟩
  case round =>
    obtain ⟨k, d, hk, rfl, hr, rfl⟩ := hrel
    have HR : Hid (xs.take k = ys.take k) := hr
    clear hr
    by_cases hlt : k < n
    · obtain ⟨x, hx⟩ : ∃ x, xs.getD k 0 = x := ⟨_, rfl⟩
      obtain ⟨y, hy⟩ : ∃ y, ys.getD k 0 = y := ⟨_, rfl⟩
      have f0 : w.cell? ⟨b0, o0 + k, none⟩ = some (.int .u8 (x : Nat)) := by rw [← hx]; exact H0.out k hlt
      have f1 : w.cell? ⟨b1, o1 + k, none⟩ = some (.int .u8 (y : Nat)) := by rw [← hy]; exact H1.out k hlt
      by_cases hxy : x = y
      · have HS : Hid (xs.take (k + 1) = ys.take (k + 1)) := by
          show _ = _
          rw [take_next' xs k (by rw [HX.out]; exact hlt), take_next' ys k (by rw [HY.out]; exact hlt), hx, hy, HR.out, hxy]
        clear hx hy
        subst hxy
        go_wp2
        go_quiet (fail)
        go_wp2
        go_roundw
        case rel => exact ⟨k + 1, _, by omega, by go_num, HS.out, rfl⟩
        case measure => simp [intOf]; omega
      · have hd : decide (xs = ys) = false := by
          rw [decide_eq_false_iff_not]
          intro e; exact hxy (by rw [← hx, ← hy, getD_of_eq e])
        have hxy' : ¬ ((x : Int) = (y : Int)) := by omega
        clear hx hy
        go_wp2
        go_quiet (fail)
        go_wp2
        go_ret
        exact ⟨by rw [hd]; rfl, _, World.drewN_drewN _ _ _⟩
    · have hd : decide (xs = ys) = true := by
        rw [decide_eq_true_iff]
        exact eq_of_getD HX.out HY.out (by have : k = n := by omega
                                           rw [← this]; exact HR.out)
      go_wp2
      go_ret
      exact ⟨by rw [hd]; rfl, _, rfl⟩
theorem same_any {v u : Value} {xs ys : List Nat} {w : World} (hv : Bs w v xs) (hu : Bs w u ys) :
    Calls Try.prog 16 #[v, u] w fun e w' => e = .returned (.bool (decide (xs = ys))) ∧ ∃ d, w' = w.drewN d := by
  have sh : ∀ {v : Value} {zs : List Nat}, Bs w v zs → ∃ ao cap, v = .slice ao zs.length cap := by
    rintro v zs ⟨_, _, ⟨rfl, rfl | ⟨a, cap, rfl⟩⟩ | ⟨_, b, off, cap, rfl, _⟩⟩
    · exact ⟨_, _, rfl⟩
    · exact ⟨_, _, rfl⟩
    · exact ⟨_, _, rfl⟩
  by_cases hl : xs.length = ys.length
  · obtain ⟨_, l1, c1⟩ := hv
    obtain ⟨_, l2, c2⟩ := hu
    rcases c1 with ⟨rfl, hc⟩ | ⟨h1, b, off, cap, rfl, _, _, f1⟩
    · have : ys = [] := List.eq_nil_of_length_eq_zero (by rw [← hl]; rfl)
      subst this
      obtain ⟨a0, c0, rfl⟩ : ∃ ao cap, v = .slice ao 0 cap := by rcases hc with rfl | ⟨a, cap, rfl⟩ <;> exact ⟨_, _, rfl⟩
      rcases c2 with ⟨_, hc⟩ | ⟨h2, _⟩
      · obtain ⟨a1, c1, rfl⟩ : ∃ ao cap, u = .slice ao 0 cap := by rcases hc with rfl | ⟨a, cap, rfl⟩ <;> exact ⟨_, _, rfl⟩
        exact (same_none a0 a1 c0 c1 w).mono fun e w' h => ⟨by simpa using h.1, 0, h.2⟩
      · simp at h2
    · rcases c2 with ⟨rfl, _⟩ | ⟨_, b2, off2, cap2, rfl, _, _, f2⟩
      · exfalso; rw [hl] at h1; exact Nat.lt_irrefl 0 h1
      · rw [← hl] at f2 ⊢
        exact same_some _ _ _ _ _ _ _ xs ys w rfl hl.symm l1 f1 f2
  · obtain ⟨a0, c0, rfl⟩ := sh hv
    obtain ⟨a1, c1, rfl⟩ := sh hu
    have hne : xs ≠ ys := fun e => hl (by rw [e])
    rw [decide_eq_false hne]
    exact (same_lens _ _ _ _ _ _ hl w).mono fun e w' h => ⟨h.1, 0, h.2⟩
theorem cell_new (w : World) (v : Value) (T : TypeId) : ∀ j u, [v][j]? = some u → (w.alloc (.cells #[v] T)).cell? ((⟨w.heap.size, 0, none⟩ : Addr).add j) = some u := by
  intro j u h
  rcases j with _ | j
  · simp at h; subst h; simp [go_sem]
  · simp at h
theorem cell_new3 (w : World) (x y z : Nat) (T : TypeId) : ∀ j u, (u8s [x, y, z])[j]? = some u → (w.alloc (.cells #[.int .u8 (x : Nat), .int .u8 (y : Nat), .int .u8 (z : Nat)] T)).cell? ((⟨w.heap.size, 0, none⟩ : Addr).add j) = some u := by
  intro j u h
  match j, h with
  | 0, h => simp [u8s] at h; subst h; simp [go_sem, Addr.add]
  | 1, h => simp [u8s] at h; subst h; simp [go_sem, Addr.add]
  | 2, h => simp [u8s] at h; subst h; simp [go_sem, Addr.add]
  | j + 3, h => simp [u8s] at h
/-- One byte more behind own bytes. -/
theorem Ow.push {w w' : World} {base : Nat} {v : Value} {zs : List Nat} {y : Nat} (h : Ow w base v zs) (hy : y < 256) (hl : zs.length + 1 ≤ 281474976710656) {v' : Value} (h' : w'.ownsRow base 5 1 v' (zs.length + 1) (u8s zs ++ [.int .u8 (y : Nat)])) : Ow w' base v' (zs ++ [y]) := by
  refine ⟨?_, by simpa using hl, ?_⟩
  · intro z hz
    rcases List.mem_append.1 hz with hz | hz
    · exact h.lt z hz
    · simp at hz; subst hz; exact hy
  · have e : u8s (zs ++ [y]) = u8s zs ++ [.int .u8 (y : Nat)] := by simp [u8s]
    rw [e, List.length_append]; exact h'
theorem Ow.alloc {w : World} {base : Nat} {v : Value} {zs : List Nat} (h : Ow w base v zs) (o : Obj) : Ow (w.alloc o) base v zs := ⟨h.lt, h.len, h.own.alloc o⟩

theorem copy_any {v : Value} {xs : List Nat} {w : World} (hv : Bs w v xs) (hl : xs.length ≤ 140737488355328) :
    Calls Try.prog 21 #[v] w fun e w' => ∃ v', e = .returned v' ∧ Ow w' w.heap.size v' xs ∧ Below w.heap.size w w' := by
  obtain ⟨i0, hi, hz0, hz1, hz2⟩ := info_parts u8info
  obtain ⟨hb, _, hcase⟩ := hv
  rcases hcase with ⟨rfl, hc⟩ | ⟨h0, b, off, cap, rfl, hcap, hblk, hcell⟩
  · obtain ⟨a0, c0, rfl⟩ : ∃ ao cap, v = .slice ao 0 cap := by rcases hc with rfl | ⟨a, cap, rfl⟩ <;> exact ⟨_, _, rfl⟩
    clear hc
    go_enter Try.func21, Try.ntmps21
    go_wp2_with (at_make; refine wpList_make_own _ rfl _ _ 22 rfl w.heap.size 5 i0 (.int .u8 0) 1 Try.underlying22 hi hz0 hz1 .i64 .i64 0 0 rfl rfl rfl (by simp) (by decide) (Nat.le_refl _) ?_; intro w1 hown hgrow)
    refine wp_loop_rounds 1 ?_
    rw [rounds_succ]
    go_wp2
    go_ret
    exact ⟨_, rfl, ⟨by simp, by simp, by assumption⟩, (Below.refl _ _).grown (by assumption) (Nat.le_refl _) (by simp)⟩
  · obtain ⟨n, hn⟩ : ∃ n, xs.length = n := ⟨_, rfl⟩
    rw [hn] at hl h0 hcap hcell ⊢
    have HN : Hid (xs.length = n) := hn
    have HC : Hid (∀ i, i < n → w.cell? ⟨b, off + i, none⟩ = some (.int .u8 (xs.getD i 0 : Nat))) := hcell
    have HB : Hid (∀ z ∈ xs, z < 256) := hb
    clear hn hcell hb
    go_enter Try.func21, Try.ntmps21
    go_wp2_with (at_make; refine wpList_make_own _ rfl _ _ 22 rfl w.heap.size 5 i0 (.int .u8 0) 1 Try.underlying22 hi hz0 hz1 .i64 .i64 _ n rfl rfl rfl (by rw [hz2]; omega) (by unfold maxLen; omega) (Nat.le_refl _) ?_; intro w1 hown hgrow)
    go_loopw [3, 4] (fun o i wr => ∃ k : Nat, k ≤ n ∧ i = .int .i64 k ∧ Ow wr w.heap.size o (xs.take k) ∧ Below w.heap.size w wr) (fun _ i _ => n - (intOf i).toNat)
    case atStart => exact ⟨0, Nat.zero_le _, rfl, ⟨by simp, by simp, by simpa using hown⟩, (Below.refl _ _).grown hgrow (Nat.le_refl _) (by simp)⟩
    case round =>
      obtain ⟨k, hk, rfl, ho, hbel⟩ := hrel
      have hsz := hbel.size
      by_cases hlt : k < n
      · obtain ⟨y, hy⟩ : ∃ y, xs.getD k 0 = y := ⟨_, rfl⟩
        have hkl : k < xs.length := by rw [HN.out]; exact hlt
        have HT : Hid (xs.take (k + 1) = xs.take k ++ [y]) := by rw [← hy]; exact take_next' xs k hkl
        have f : wr.cell? ⟨b, off + k, none⟩ = some (.int .u8 (y : Nat)) := by rw [← hy]; exact (hbel.cell (by exact hblk)).trans (HC.out k hlt)
        have hy1 : y < 256 := by rw [← hy]; exact HB.out _ (getD_mem xs k hkl)
        clear hy
        have hlk : (xs.take k).length = k := by rw [List.length_take]; omega
        have HO : Hid (Ow wr w.heap.size u3 (xs.take k)) := ho
        have HR : Hid (wr.ownsRow w.heap.size 5 1 u3 k (u8s (xs.take k))) := by have := ho.own; rw [hlk] at this; exact this
        clear ho
        go_wp2_with (at_builtin; refine wpList_append_own _ rfl _ _ 22 rfl w.heap.size 5 i0 (.int .u8 0) 1 1 Try.underlying22 hi hz0 hz1 hz2 rfl (by decide) _ _ _ rfl (HR.out.alloc _) ⟨wr.heap.size, 0, none⟩ 1 1 [.int .u8 (y : Nat)] rfl rfl (cell_new _ _ _) (by intro u hu; simp at hu; subst hu; rfl) (by unfold maxLen; omega) (by omega) (by simp; omega) ?_; intro v' w2 hown' hgrow' hnil')
        go_roundw
        case rel =>
          refine ⟨k + 1, by omega, by go_num, ?_, (hbel.alloc hsz _).grown (by assumption) (by simp; omega) (fun j hj => (HO.out.ge j hj).1)⟩
          rw [HT.out]
          exact HO.out.push hy1 (by rw [hlk]; omega) (by rw [hlk]; assumption)
        case measure => simp [intOf]; omega
      · have hkn : k = n := by omega
        subst hkn
        rw [List.take_of_length_le (by rw [HN.out]; omega)] at ho
        go_wp2
        go_ret
        exact ⟨_, rfl, ho, hbel⟩

theorem Bs.gen {w : World} {v : Value} {xs : List Nat} (h : Bs w v xs) : ∃ ao cap, v = .slice ao xs.length cap ∧ (ao = none → xs.length = 0 ∧ cap = 0) ∧
    ∀ ad, ao = some ad → ∀ j u, (u8s xs)[j]? = some u → w.cell? (ad.add j) = some u := by
  obtain ⟨_, _, ⟨rfl, rfl | ⟨a, cap, rfl⟩⟩ | ⟨h0, b, off, cap, rfl, hcap, _, hc⟩⟩ := h
  · exact ⟨none, 0, rfl, fun _ => ⟨rfl, rfl⟩, fun ad h => by cases h⟩
  · exact ⟨some a, cap, rfl, fun h => (by cases h), fun ad _ j u h => by simp [u8s] at h⟩
  · refine ⟨_, _, rfl, fun h => (by cases h), ?_⟩
    rintro ad ⟨⟩ j u hj
    have hjl : j < xs.length := by
      have := (List.getElem?_eq_some_iff.1 hj).1
      simpa [u8s] using this
    rw [u8s_get xs j hjl] at hj
    have e : (⟨b, off, none⟩ : Addr).add j = ⟨b, off + j, none⟩ := by simp [Addr.add]
    rw [e, hc j hjl]; exact hj
theorem Bs.cells {w : World} {ao : Option Addr} {n cap : Nat} {xs : List Nat} (h : Bs w (.slice ao n cap) xs) : ∀ ad, ao = some ad → ∀ j u, (u8s xs)[j]? = some u → w.cell? (ad.add j) = some u := by
  obtain ⟨ao', cap', e, _, h3⟩ := h.gen
  simp only [Value.slice.injEq] at e
  obtain ⟨rfl, _, _⟩ := e
  exact h3
theorem Bs.grown {w w' : World} {row : Option Nat} {v : Value} {xs : List Nat} (h : Bs w v xs) (hg : w.grownBy w' row) (hr : ∀ k, row = some k → v.ownBlock ≠ some k) : Bs w' v xs :=
  h.keep hg.size fun k e hk => hg.block k hk (fun e' => hr k e'.symm e)
theorem u8s_append (xs ys : List Nat) : u8s (xs ++ ys) = u8s xs ++ u8s ys := by simp [u8s]

theorem lent_any {v : Value} {xs : List Nat} {w : World} (hv : Bs w v xs) (hl : xs.length ≤ 140737488355328) :
    Calls Try.prog 13 #[v] w fun e w' => ∃ g, e = .returned (.slice (some ⟨g, 0, none⟩) xs.length (xs.length + 3)) ∧ w.heap.size ≤ g ∧
      Ow w' w.heap.size (.slice (some ⟨g, 0, none⟩) (xs.length + 3) (xs.length + 3)) (xs ++ [201, 202, 203]) ∧ Below w.heap.size w w' := by
  obtain ⟨i0, hi, hz0, hz1, hz2⟩ := info_parts u8info
  have HV : Hid (Bs w v xs) := hv
  obtain ⟨ao, cap, rfl, hnone, _⟩ := hv.gen
  clear hv
  obtain ⟨n, hn⟩ : ∃ n, xs.length = n := ⟨_, rfl⟩
  rw [hn] at hl hnone ⊢
  have HN : Hid (xs.length = n) := hn
  clear hn
  go_enter Try.func13, Try.ntmps13
  go_wp2_with (first
    | (at_make; refine wpList_make_own _ rfl _ _ 22 rfl w.heap.size 5 i0 (.int .u8 0) 1 Try.underlying22 hi hz0 hz1 .i64 .i64 _ (n + 3) rfl rfl (by go_num) (by rw [hz2]; omega) (by unfold maxLen; omega) (Nat.le_refl _) ?_; intro w1 hown hgrow)
    | (at_builtin; refine wpList_append_fits_any _ rfl _ _ 22 rfl w.heap.size 5 i0 1 Try.underlying22 hi hz1 w.heap.size 0 (n + 3) [] rfl hown ao n cap (u8s xs) rfl (by simp [u8s]; exact HN.out) hnone ((HV.out.grown hgrow (by simp)).cells) (u8s_one xs) (by omega) ?_; rw [Nat.zero_add]; intro w2 hown2 hgrow2)
    | (at_builtin; refine wpList_append_fits _ rfl _ _ 22 rfl w.heap.size 5 i0 1 Try.underlying22 hi hz1 w.heap.size n (n + 3) _ rfl (hown2.alloc _) ⟨w2.heap.size, 0, none⟩ 3 3 (u8s [201, 202, 203]) rfl rfl (cell_new3 _ _ _ _ _) (u8s_one _) (by omega) ?_; intro w3 hown3 hgrow3))
  go_ret
  refine ⟨w.heap.size, rfl, Nat.le_refl _, ⟨?_, by simp; rw [HN.out]; omega, ?_⟩, ?_⟩
  · intro z hz
    rcases List.mem_append.1 hz with hz | hz
    · exact HV.out.1 z hz
    · simp at hz; omega
  · rw [u8s_append, List.length_append, HN.out]
    simpa using hown3
  · have b1 := (Below.refl w.heap.size w).grown hgrow (Nat.le_refl _) (by simp)
    have s1 := b1.size
    have b2 := b1.grown hgrow2 s1 (by simp)
    exact (b2.alloc b2.size _).grown hgrow3 (by simp; have := b2.size; omega) (by simp)

theorem slice_inj {g g' n n' c c' : Nat} (h : Value.slice (some ⟨g, 0, none⟩) n c = .slice (some ⟨g', 0, none⟩) n' c') : g = g' ∧ n = n' ∧ c = c' := by
  simp at h; exact h
theorem Ow.prefix {w : World} {base g n c c' : Nat} {xs ys : List Nat} (h : Ow w base (.slice (some ⟨g, 0, none⟩) n c) (xs ++ ys)) (hc : xs.length ≤ c') : Bs w (.slice (some ⟨g, 0, none⟩) xs.length c') xs := by
  rcases h.shape with ⟨h', _⟩ | ⟨g', cap, h', hcap, _, hg, _, hcell⟩
  · cases h'
  · obtain ⟨rfl, rfl, rfl⟩ := slice_inj h'
    have hl := h.len
    rw [List.length_append] at hl hcell
    refine ⟨fun z hz => h.lt z (List.mem_append_left _ hz), by omega, ?_⟩
    by_cases h0 : xs.length = 0
    · have := List.eq_nil_of_length_eq_zero h0
      subst this
      exact .inl ⟨rfl, .inr ⟨_, _, rfl⟩⟩
    · refine .inr ⟨by omega, _, 0, _, rfl, hc, hg, fun i hi => ?_⟩
      rw [Nat.zero_add, hcell i (by omega)]
      simp [List.getD, List.getElem?_append_left hi]
theorem kept_true {v : Value} {xs : List Nat} {w : World} {base g : Nat} (hv : Bs w v xs) (hk : Ow w base (.slice (some ⟨g, 0, none⟩) (xs.length + 3) (xs.length + 3)) (xs ++ [201, 202, 203])) :
    Calls Try.prog 17 #[.slice (some ⟨g, 0, none⟩) xs.length (xs.length + 3), v] w fun e w' => e = .returned (.bool true) ∧ ∃ d, w' = w.drewN d := by
  have hl : xs.length ≤ 281474976710656 := hv.2.1
  have c0 : w.cell? ⟨g, xs.length, none⟩ = some (.int .u8 201) := by
    rcases hk.shape with ⟨h', _⟩ | ⟨g', cap, h', _, _, _, _, hcell⟩
    · cases h'
    · obtain ⟨rfl, _, _⟩ := slice_inj h'
      simpa [List.getD] using hcell xs.length (by simp)
  have c1 : w.cell? ⟨g, xs.length + 1, none⟩ = some (.int .u8 202) := by
    rcases hk.shape with ⟨h', _⟩ | ⟨g', cap, h', _, _, _, _, hcell⟩
    · cases h'
    · obtain ⟨rfl, _, _⟩ := slice_inj h'
      simpa [List.getD, List.getElem?_append_right] using hcell (xs.length + 1) (by simp)
  have c2 : w.cell? ⟨g, xs.length + 2, none⟩ = some (.int .u8 203) := by
    rcases hk.shape with ⟨h', _⟩ | ⟨g', cap, h', _, _, _, _, hcell⟩
    · cases h'
    · obtain ⟨rfl, _, _⟩ := slice_inj h'
      simpa [List.getD, List.getElem?_append_right] using hcell (xs.length + 2) (by simp)
  have hs := same_any (hk.prefix (c' := xs.length + 3) (by omega)) hv
  rw [decide_eq_true rfl] at hs
  have HS : Hid (Calls Try.prog 16 #[.slice (some ⟨g, 0, none⟩) xs.length (xs.length + 3), v] w fun e w' => e = .returned (.bool true) ∧ ∃ d, w' = w.drewN d) := hs
  obtain ⟨ao, cap, rfl, _, _⟩ := hv.gen
  clear hs hv hk
  generalize xs.length = n at *
  go_enter Try.func17, Try.ntmps17
  go_wp2_with (go_at_call 16; refine Calls.mono HS.out ?_; rintro e w' ⟨rfl, d, rfl⟩)
  go_ret
  exact ⟨rfl, _, rfl⟩
end Go.Proofs.Ythmjdebnjcopnaa
/- row: isSize. -/
namespace Go.Proofs.Ythmjdebnjcopnaa
open Go.RowKit

theorem isSize_any (n : Int) (w : World) :
    Calls Try.prog 84 #[.int .i64 n] w fun e w' => e = .returned (.bool (decide (1 ≤ n ∧ n ≤ 8))) ∧ w' = w := by
  by_cases h1 : 1 ≤ n
  · by_cases h2 : n ≤ 8
    · rw [decide_eq_true ⟨h1, h2⟩]
      go_enter Try.func84, Try.ntmps84
      go_wp2
      go_ret
      exact ⟨rfl, rfl⟩
    · rw [decide_eq_false (fun h => h2 h.2)]
      go_enter Try.func84, Try.ntmps84
      go_wp2
      go_ret
      exact ⟨rfl, rfl⟩
  · rw [decide_eq_false (fun h => h1 h.1)]
    go_enter Try.func84, Try.ntmps84
    go_wp2
    go_ret
    exact ⟨rfl, rfl⟩
end Go.Proofs.Ythmjdebnjcopnaa
/- Numbers of bytes, the highest first. -/
namespace Go.Proofs.Ythmjdebnjcopnaa
open Go.RowKit

/-- The number that bytes make, the highest first. -/
def val (zs : List Nat) : Nat := zs.foldl (fun a z => 256 * a + z) 0
theorem val_snoc (zs : List Nat) (z : Nat) : val (zs ++ [z]) = 256 * val zs + z := by unfold val; rw [List.foldl_append]; rfl
theorem val_next (zs : List Nat) (k : Nat) (h : k < zs.length) : val (zs.take (k + 1)) = 256 * val (zs.take k) + zs.getD k 0 := by rw [take_next' zs k h, val_snoc]
theorem val_lt (zs : List Nat) (hz : ∀ z ∈ zs, z < 256) (k : Nat) (hk : k ≤ zs.length) : val (zs.take k) < 256 ^ k := by
  induction k with
  | zero => simp [val]
  | succ k ih =>
    have h1 := ih (by omega)
    have h2 := hz _ (getD_mem zs k (by omega))
    rw [val_next zs k (by omega), Nat.pow_succ]
    omega
theorem shl_or (a z : Nat) (ha : a < 72057594037927936) (hz : z < 256) : bits .or .u64 ((a : Int) * 256) (z : Int) = ((256 * a + z : Nat) : Int) := by
  have e : (a : Int) * 256 = ((256 * a : Nat) : Int) := by omega
  rw [e]
  rw [u64_or_nat _ _ (by omega) (by omega)]
  have : 256 * a = a <<< 8 := by rw [Nat.shiftLeft_eq]; omega
  rw [this, ← Nat.shiftLeft_add_eq_or_of_lt (by omega)]
end Go.Proofs.Ythmjdebnjcopnaa
/- Bytes as elements of a field of 256: products, powers, inverses, boxes. -/
namespace Go.Proofs.Ythmjdebnjcopnaa
open Go.RowKit

abbrev B8 := BitVec 8
/-- What holds at each number below 256 holds at each byte. -/
theorem all8 {P : B8 → Prop} (h : ∀ n, n < 256 → P (BitVec.ofNat 8 n)) (x : B8) : P x := by
  have := h x.toNat x.isLt
  simpa using this

/-- x if the bit is set. -/
def cx {n : Nat} (c : Bool) (x : BitVec n) : BitVec n := if c then x else 0
theorem cx_xor {n : Nat} (c d : Bool) (x : BitVec n) : cx (c ^^ d) x = cx c x ^^^ cx d x := by cases c <;> cases d <;> simp [cx]
theorem cx_add {n : Nat} (c : Bool) (x y : BitVec n) : cx c (x ^^^ y) = cx c x ^^^ cx c y := by cases c <;> simp [cx]
theorem x4 {n : Nat} (a b c d : BitVec n) : (a ^^^ b) ^^^ (c ^^^ d) = (a ^^^ c) ^^^ (b ^^^ d) := by
  rw [BitVec.xor_assoc, BitVec.xor_assoc, ← BitVec.xor_assoc b c d, BitVec.xor_comm b c, BitVec.xor_assoc c b d]

/-- A map that goes over sums. -/
def Add {n m : Nat} (f : BitVec n → BitVec m) : Prop := ∀ x y, f (x ^^^ y) = f x ^^^ f y
theorem Add.zero {n m : Nat} {f : BitVec n → BitVec m} (h : Add f) : f 0 = 0 := by
  have e := h 0 0
  rw [BitVec.xor_self, BitVec.xor_self] at e
  exact e
theorem Add.cx {n m : Nat} {f : BitVec n → BitVec m} (h : Add f) (c : Bool) (x : BitVec n) : f (cx c x) = Go.Proofs.Ythmjdebnjcopnaa.cx c (f x) := by
  cases c
  · exact h.zero
  · rfl
theorem Add.comp {n m k : Nat} {f : BitVec n → BitVec m} {g : BitVec m → BitVec k} (hg : Add g) (hf : Add f) : Add (fun x => g (f x)) := by
  intro x y
  show g (f (x ^^^ y)) = _
  rw [hf, hg]
/-- A byte by its bits. -/
theorem by_bits : ∀ x : B8, x = cx (x.getLsbD 0) 1#8 ^^^ (cx (x.getLsbD 1) 2#8 ^^^ (cx (x.getLsbD 2) 4#8 ^^^ (cx (x.getLsbD 3) 8#8 ^^^ (cx (x.getLsbD 4) 16#8 ^^^ (cx (x.getLsbD 5) 32#8 ^^^ (cx (x.getLsbD 6) 64#8 ^^^ cx (x.getLsbD 7) 128#8)))))) :=
  all8 (by decide +kernel)
/-- Two such maps that agree at the bits agree. -/
theorem Add.ext {m : Nat} {f g : B8 → BitVec m} (hf : Add f) (hg : Add g) (h : ∀ i, i < 8 → f (BitVec.ofNat 8 (2 ^ i)) = g (BitVec.ofNat 8 (2 ^ i))) (x : B8) : f x = g x := by
  have h0 : f 1#8 = g 1#8 := h 0 (by decide)
  have h1 : f 2#8 = g 2#8 := h 1 (by decide)
  have h2 : f 4#8 = g 4#8 := h 2 (by decide)
  have h3 : f 8#8 = g 8#8 := h 3 (by decide)
  have h4 : f 16#8 = g 16#8 := h 4 (by decide)
  have h5 : f 32#8 = g 32#8 := h 5 (by decide)
  have h6 : f 64#8 = g 64#8 := h 6 (by decide)
  have h7 : f 128#8 = g 128#8 := h 7 (by decide)
  rw [by_bits x, hf, hf, hf, hf, hf, hf, hf, hg, hg, hg, hg, hg, hg, hg]
  simp only [hf.cx, hg.cx, h0, h1, h2, h3, h4, h5, h6, h7]

/-- A byte times x. -/
def dbl (a : B8) : B8 := (a <<< 1) ^^^ cx (a.getLsbD 7) 27#8
def dbls : Nat → B8 → B8
  | 0, a => a
  | n + 1, a => dbl (dbls n a)
/-- The product's first n sums. -/
def acc (a b : B8) : Nat → B8
  | 0 => 0
  | n + 1 => acc a b n ^^^ cx (b.getLsbD n) (dbls n a)
/-- The product. -/
def tm (a b : B8) : B8 := acc a b 8

theorem dbl_add : Add dbl := by
  intro x y
  unfold dbl
  rw [BitVec.shiftLeft_xor_distrib, BitVec.getLsbD_xor, cx_xor, x4]
theorem dbls_add (n : Nat) : Add (dbls n) := by
  induction n with
  | zero => intro x y; rfl
  | succ n ih => exact Add.comp (g := dbl) (f := dbls n) dbl_add ih
theorem acc_add_right (a : B8) (n : Nat) : Add (fun b => acc a b n) := by
  induction n with
  | zero => intro x y; simp [acc]
  | succ n ih =>
    intro x y
    have e := ih x y
    simp only [acc] at e ⊢
    rw [e, BitVec.getLsbD_xor, cx_xor, x4]
theorem acc_add_left (b : B8) (n : Nat) : Add (fun a => acc a b n) := by
  induction n with
  | zero => intro x y; simp [acc]
  | succ n ih =>
    intro x y
    have e := ih x y
    simp only [acc] at e ⊢
    rw [e, dbls_add n x y, cx_add, x4]
theorem tm_right (a : B8) : Add (fun b => tm a b) := acc_add_right a 8
theorem tm_left (b : B8) : Add (fun a => tm a b) := acc_add_left b 8
theorem tm_add (a b c : B8) : tm a (b ^^^ c) = tm a b ^^^ tm a c := tm_right a b c

theorem comm_bits : ∀ i, i < 8 → ∀ j, j < 8 → tm (BitVec.ofNat 8 (2 ^ i)) (BitVec.ofNat 8 (2 ^ j)) = tm (BitVec.ofNat 8 (2 ^ j)) (BitVec.ofNat 8 (2 ^ i)) := by decide +kernel
theorem tm_comm (a b : B8) : tm a b = tm b a := by
  refine Add.ext (f := fun b => tm a b) (g := fun b => tm b a) (tm_right a) (tm_left a) (fun j hj => ?_) b
  exact Add.ext (f := fun a => tm a _) (g := fun a => tm _ a) (tm_left _) (tm_right _) (fun i hi => comm_bits i hi j hj) a
theorem assoc_bits : ∀ i, i < 8 → ∀ j, j < 8 → ∀ k, k < 8 → tm (BitVec.ofNat 8 (2 ^ i)) (tm (BitVec.ofNat 8 (2 ^ j)) (BitVec.ofNat 8 (2 ^ k))) = tm (tm (BitVec.ofNat 8 (2 ^ i)) (BitVec.ofNat 8 (2 ^ j))) (BitVec.ofNat 8 (2 ^ k)) := by decide +kernel
theorem tm_assoc (a b c : B8) : tm a (tm b c) = tm (tm a b) c := by
  refine Add.ext (f := fun c => tm a (tm b c)) (g := fun c => tm (tm a b) c) (Add.comp (tm_right a) (tm_right b)) (tm_right _) (fun k hk => ?_) c
  refine Add.ext (f := fun b => tm a (tm b _)) (g := fun b => tm (tm a b) _) (Add.comp (g := fun y => tm a y) (f := fun b => tm b _) (tm_right a) (tm_left _)) (Add.comp (g := fun y => tm y _) (f := fun b => tm a b) (tm_left _) (tm_right a)) (fun j hj => ?_) b
  exact Add.ext (f := fun a => tm a (tm _ _)) (g := fun a => tm (tm a _) _) (tm_left _) (Add.comp (g := fun y => tm y _) (f := fun a => tm a _) (tm_left _) (tm_left _)) (fun i hi => assoc_bits i hi j hj k hk) a
theorem tm_one (a : B8) : tm a 1 = a := by
  refine Add.ext (f := fun a => tm a 1) (g := fun a => a) (tm_left _) (fun _ _ => rfl) (by decide +kernel) a
theorem one_tm (a : B8) : tm 1 a = a := by rw [tm_comm, tm_one]
theorem tm_zero (a : B8) : tm a 0 = 0 := (tm_right a).zero
theorem zero_tm (a : B8) : tm 0 a = 0 := (tm_left a).zero

/-- 1 times a, n times. -/
def pw (a : B8) : Nat → B8
  | 0 => 1
  | n + 1 => tm (pw a n) a
theorem pw_add (a : B8) (n m : Nat) : tm (pw a n) (pw a m) = pw a (n + m) := by
  induction m with
  | zero => exact tm_one _
  | succ m ih =>
    show tm (pw a n) (tm (pw a m) a) = tm (pw a (n + m)) a
    rw [tm_assoc, ih]
theorem pw_sq (a : B8) (n : Nat) : pw (tm a a) n = pw a (2 * n) := by
  induction n with
  | zero => rfl
  | succ n ih =>
    show tm (pw (tm a a) n) (tm a a) = tm (tm (pw a (2 * n)) a) a
    rw [ih, tm_assoc]
/-- The power by the number's bits: q times the nth power of a, at most k bits. -/
def pwq : Nat → B8 → B8 → Nat → B8
  | 0, q, _, _ => q
  | k + 1, q, a, n => if n = 0 then q else pwq k (if n % 2 = 1 then tm q a else q) (tm a a) (n / 2)
theorem pwq_eq (k : Nat) (q a : B8) (n : Nat) (h : n < 2 ^ k) : pwq k q a n = tm q (pw a n) := by
  induction k generalizing q a n with
  | zero =>
    have : n = 0 := by simp at h; omega
    subst this
    exact (tm_one q).symm
  | succ k ih =>
    unfold pwq
    by_cases h0 : n = 0
    · subst h0; rw [if_pos rfl]; exact (tm_one q).symm
    · rw [if_neg h0, ih _ _ _ (by rw [Nat.pow_succ] at h; omega), pw_sq]
      by_cases h1 : n % 2 = 1
      · rw [if_pos h1, ← tm_assoc]
        have e : n = 1 + 2 * (n / 2) := by omega
        have e1 : a = pw a 1 := (one_tm a).symm
        conv => lhs; arg 2; arg 1; rw [e1]
        rw [pw_add, ← e]
      · rw [if_neg h1]
        have e : n = 2 * (n / 2) := by omega
        rw [← e]
/-- The inverse. -/
def inv (a : B8) : B8 := pw a 254
theorem inv_eq (a : B8) : inv a = pwq 8 1 a 254 := by rw [pwq_eq 8 1 a 254 (by decide), one_tm]; rfl
theorem pw255 (a : B8) (h : a ≠ 0) : pw a 255 = 1 := by
  have e : pw a 255 = pwq 8 1 a 255 := by rw [pwq_eq 8 1 a 255 (by decide), one_tm]
  rw [e]
  revert h
  exact all8 (P := fun a => a ≠ 0 → pwq 8 1 a 255 = 1) (by decide +kernel) a
theorem tm_inv (a : B8) (h : a ≠ 0) : tm a (inv a) = 1 := by
  rw [tm_comm]; exact pw255 a h
theorem inv_zero : inv 0 = 0 := by rw [inv_eq]; decide +kernel
theorem inv_of {a b : B8} (h : tm a b = 1) : b = inv a := by
  have h0 : a ≠ 0 := by intro e; rw [e, zero_tm] at h; exact absurd h (by decide)
  have e : tm (inv a) (tm a b) = tm (inv a) 1 := congrArg _ h
  rw [tm_assoc, tm_comm (inv a) a, tm_inv a h0, one_tm, tm_one] at e
  exact e
theorem inv_ne {a : B8} (h : a ≠ 0) : inv a ≠ 0 := by
  intro e
  have := tm_inv a h
  rw [e, tm_zero] at this
  exact absurd this (by decide)
theorem inv_inv (a : B8) : inv (inv a) = a := by
  by_cases h : a = 0
  · rw [h, inv_zero, inv_zero]
  · exact (inv_of (by rw [tm_comm]; exact tm_inv a h)).symm
theorem pw_mod (a : B8) (h : a ≠ 0) (n : Nat) : pw a n = pw a (n % 255) := by
  have hq : ∀ k, pw a (255 * k) = 1 := by
    intro k
    induction k with
    | zero => rfl
    | succ k ih => rw [Nat.mul_succ, ← pw_add, ih, pw255 a h, tm_one]
  have e : n = 255 * (n / 255) + n % 255 := by omega
  conv => lhs; rw [e]
  rw [← pw_add, hq, one_tm]
theorem pw_zero (n : Nat) (h : 0 < n) : pw 0 n = 0 := by
  cases n with
  | zero => omega
  | succ n => exact tm_zero _

/-- The box, of the inverse: the sum of turns, and 63 (base 16). -/
def turns (b : B8) : Nat → B8
  | 0 => b
  | t + 1 => turns b t ^^^ b.rotateLeft (t + 1)
def aff (b : B8) : B8 := turns b 4 ^^^ 99#8
def affBack (b : B8) : B8 := b.rotateLeft 1 ^^^ b.rotateLeft 3 ^^^ b.rotateLeft 6 ^^^ 5#8
theorem aff_back : ∀ b : B8, affBack (aff b) = b := all8 (by decide +kernel)
theorem back_aff : ∀ b : B8, aff (affBack b) = b := all8 (by decide +kernel)
def bx (a : B8) : B8 := aff (inv a)
def bk (a : B8) : B8 := inv (affBack a)
theorem bk_bx (a : B8) : bk (bx a) = a := by unfold bk bx; rw [aff_back, inv_inv]
theorem bx_bk (a : B8) : bx (bk a) = a := by unfold bk bx; rw [inv_inv, back_aff]
theorem bx_inj {a b : B8} (h : bx a = bx b) : a = b := by rw [← bk_bx a, h, bk_bx]
theorem bx_ne (a : B8) : bx a ≠ a ∧ bx a ≠ ~~~a := by
  unfold bx; rw [inv_eq]
  exact all8 (P := fun a => aff (pwq 8 1 a 254) ≠ a ∧ aff (pwq 8 1 a 254) ≠ ~~~a) (by decide +kernel) a
/-- The box's bit i, by the document's sum; and the box by its first bits. -/
def bitAt (b : B8) (i : Nat) : Nat := b.toNat / 2 ^ i % 2
def sumAt (b : B8) (i : Nat) : Nat := bitAt 99#8 i + bitAt b i + bitAt b ((i + 4) % 8) + bitAt b ((i + 5) % 8) + bitAt b ((i + 6) % 8) + bitAt b ((i + 7) % 8)
def byBits (b : B8) : Nat → Nat
  | 0 => 0
  | i + 1 => byBits b i + sumAt b i % 2 * 2 ^ i
theorem byBits_aff : ∀ b : B8, byBits b 8 = (aff b).toNat := all8 (by decide +kernel)
theorem byBits_lt (b : B8) (i : Nat) : byBits b i < 2 ^ i := by
  induction i with
  | zero => exact Nat.one_pos
  | succ i ih =>
    show byBits b i + sumAt b i % 2 * 2 ^ i < 2 ^ (i + 1)
    rw [Nat.pow_succ]
    have h : sumAt b i % 2 = 0 ∨ sumAt b i % 2 = 1 := by omega
    rcases h with h | h <;> rw [h] <;> omega

/-- The number of each byte among the powers of 3. -/
def logs : List Nat := [0, 0, 25, 1, 50, 2, 26, 198, 75, 199, 27, 104, 51, 238, 223, 3, 100, 4, 224, 14, 52, 141, 129, 239, 76, 113, 8, 200, 248, 105, 28, 193, 125, 194, 29, 181, 249, 185, 39, 106, 77, 228, 166, 114, 154, 201, 9, 120, 101, 47, 138, 5, 33, 15, 225, 36, 18, 240, 130, 69, 53, 147, 218, 142, 150, 143, 219, 189, 54, 208, 206, 148, 19, 92, 210, 241, 64, 70, 131, 56, 102, 221, 253, 48, 191, 6, 139, 98, 179, 37, 226, 152, 34, 136, 145, 16, 126, 110, 72, 195, 163, 182, 30, 66, 58, 107, 40, 84, 250, 133, 61, 186, 43, 121, 10, 21, 155, 159, 94, 202, 78, 212, 172, 229, 243, 115, 167, 87, 175, 88, 168, 80, 244, 234, 214, 116, 79, 174, 233, 213, 231, 230, 173, 232, 44, 215, 117, 122, 235, 22, 11, 245, 89, 203, 95, 176, 156, 169, 81, 160, 127, 12, 246, 111, 23, 196, 73, 236, 216, 67, 31, 45, 164, 118, 123, 183, 204, 187, 62, 90, 251, 96, 177, 134, 59, 82, 161, 108, 170, 85, 41, 157, 151, 178, 135, 144, 97, 190, 220, 252, 188, 149, 207, 205, 55, 63, 91, 209, 83, 57, 132, 60, 65, 162, 109, 71, 20, 42, 158, 93, 86, 242, 211, 171, 68, 17, 146, 217, 35, 32, 46, 137, 180, 124, 184, 38, 119, 153, 227, 165, 103, 74, 237, 222, 197, 49, 254, 24, 13, 99, 140, 128, 192, 247, 112, 7]
theorem logs_lt : ∀ n, n < 256 → logs.getD n 0 < 255 := by decide +kernel
theorem logs_eq : ∀ a : B8, a ≠ 0 → pwq 8 1 3#8 (logs.getD a.toNat 0) = a := all8 (P := fun a => a ≠ 0 → pwq 8 1 3#8 (logs.getD a.toNat 0) = a) (by decide +kernel)
theorem gen_all (a : B8) (h : a ≠ 0) : ∃ i, i < 255 ∧ pw 3#8 i = a := by
  refine ⟨logs.getD a.toNat 0, logs_lt _ a.isLt, ?_⟩
  have e := logs_eq a h
  have hl := logs_lt _ a.isLt
  rw [pwq_eq 8 1 _ _ (Nat.lt_trans hl (by decide)), one_tm] at e
  exact e
theorem gen_inv (i : Nat) (h : i < 255) : pw 3#8 ((255 - i) % 255) = inv (pw 3#8 i) := by
  apply inv_of
  rw [pw_add]
  by_cases h0 : i = 0
  · subst h0; rfl
  · rw [Nat.mod_eq_of_lt (by omega), show i + (255 - i) = 255 by omega]
    exact pw255 _ (by decide)
/-- The column of the box s, as a number. -/
def col (s : B8) : Nat := (tm 2#8 s).toNat * 16777216 + s.toNat * 65536 + s.toNat * 256 + (tm 3#8 s).toNat
theorem col_lt (s : B8) : col s < 4294967296 := by
  have h1 := (tm 2#8 s).isLt
  have h2 := s.isLt
  have h3 := (tm 3#8 s).isLt
  unfold col; omega

/-- The product of polynomials, its first n sums. -/
def wide (a b : B8) : Nat → BitVec 16
  | 0 => 0
  | n + 1 => wide a b n ^^^ cx (b.getLsbD n) (a.setWidth 16 <<< n)
/-- What is too much taken away, from x^15 on, n times. -/
def cut (p : BitVec 16) : Nat → BitVec 16
  | 0 => p
  | n + 1 => cut p n ^^^ cx ((cut p n).getLsbD (15 - n)) (283#16 <<< (7 - n))
theorem wide_right (a : B8) (n : Nat) : Add (fun b => wide a b n) := by
  induction n with
  | zero => intro x y; simp [wide]
  | succ n ih =>
    intro x y
    have e := ih x y
    simp only [wide] at e ⊢
    rw [e, BitVec.getLsbD_xor, cx_xor, x4]
theorem wide_left (b : B8) (n : Nat) : Add (fun a => wide a b n) := by
  induction n with
  | zero => intro x y; simp [wide]
  | succ n ih =>
    intro x y
    have e := ih x y
    simp only [wide] at e ⊢
    rw [e, BitVec.setWidth_xor, BitVec.shiftLeft_xor_distrib, cx_add, x4]
theorem cut_add (n : Nat) : Add (fun p => cut p n) := by
  induction n with
  | zero => intro x y; rfl
  | succ n ih =>
    intro x y
    have e := ih x y
    simp only [cut] at e ⊢
    rw [e, BitVec.getLsbD_xor, cx_xor, x4]
def tmr (a b : B8) : B8 := (cut (wide a b 8) 8).setWidth 8
theorem low_add : Add (fun p : BitVec 16 => p.setWidth 8) := by
  intro x y
  exact BitVec.setWidth_xor
theorem tmr_bits : ∀ i, i < 8 → ∀ j, j < 8 → tmr (BitVec.ofNat 8 (2 ^ i)) (BitVec.ofNat 8 (2 ^ j)) = tm (BitVec.ofNat 8 (2 ^ i)) (BitVec.ofNat 8 (2 ^ j)) := by decide +kernel
theorem tmr_eq (a b : B8) : tmr a b = tm a b := by
  refine Add.ext (f := fun b => tmr a b) (g := fun b => tm a b) (Add.comp (g := fun p : BitVec 16 => p.setWidth 8) (f := fun b => cut (wide a b 8) 8) low_add (Add.comp (g := fun p => cut p 8) (f := fun b => wide a b 8) (cut_add 8) (wide_right a 8))) (tm_right a) (fun j hj => ?_) b
  exact Add.ext (f := fun a => tmr a _) (g := fun a => tm a _) (Add.comp (g := fun p : BitVec 16 => p.setWidth 8) (f := fun a => cut (wide a _ 8) 8) low_add (Add.comp (g := fun p => cut p 8) (f := fun a => wide a _ 8) (cut_add 8) (wide_left _ 8))) (tm_left _) (fun i hi => tmr_bits i hi j hj) a
end Go.Proofs.Ythmjdebnjcopnaa
/- The program's doubled and Times. -/
namespace Go.Proofs.Ythmjdebnjcopnaa
open Go.RowKit

/-- A byte as a number. -/
def b8 (x : B8) : Nat := x.toNat
theorem b8_lt (x : B8) : b8 x < 256 := x.isLt
theorem b8_of (n : Nat) (h : n < 256) : b8 (BitVec.ofNat 8 n) = n := by unfold b8; simp; omega
theorem b8_inj {x y : B8} (h : b8 x = b8 y) : x = y := BitVec.eq_of_toNat_eq h
theorem b8_get (n : Nat) (h : n < 256) : ∃ x : B8, n = b8 x := ⟨BitVec.ofNat 8 n, (b8_of n h).symm⟩
theorem xor_b8 (a b : B8) : bits .xor .u8 (b8 a : Int) (b8 b : Int) = (b8 (a ^^^ b) : Int) := by
  rw [u8_xor_nat _ _ (b8_lt a) (b8_lt b)]; unfold b8; rw [BitVec.toNat_xor]
theorem dbl_low (a : B8) (h : a.getLsbD 7 = false) : bits .and .u8 (b8 a : Int) 128 = 0 ∧ (b8 a : Int) * 2 % 256 = (b8 (dbl a) : Int) := by
  revert h
  exact all8 (P := fun a => a.getLsbD 7 = false → bits .and .u8 (b8 a : Int) 128 = 0 ∧ (b8 a : Int) * 2 % 256 = (b8 (dbl a) : Int)) (by decide +kernel) a
theorem dbl_high (a : B8) (h : a.getLsbD 7 = true) : bits .and .u8 (b8 a : Int) 128 = 128 ∧ bits .xor .u8 ((b8 a : Int) * 2 % 256) 27 = (b8 (dbl a) : Int) := by
  revert h
  exact all8 (P := fun a => a.getLsbD 7 = true → bits .and .u8 (b8 a : Int) 128 = 128 ∧ bits .xor .u8 ((b8 a : Int) * 2 % 256) 27 = (b8 (dbl a) : Int)) (by decide +kernel) a

theorem bit_at (b : B8) (k : Nat) (h : k < 8) : bits .and .u8 ((b8 b : Int) / 2 ^ k) 1 = (if b.getLsbD k then 1 else 0) := by
  revert b
  revert h
  revert k
  have e : ∀ k, k < 8 → ∀ n, n < 256 → bits .and .u8 ((b8 (BitVec.ofNat 8 n) : Int) / 2 ^ k) 1 = (if (BitVec.ofNat 8 n).getLsbD k then 1 else 0) := by decide +kernel
  intro k h
  exact all8 (e k h)
theorem doubled_any (a : B8) (w : World) :
    Calls Try.prog 92 #[.int .u8 (b8 a)] w fun e w' => e = .returned (.int .u8 (b8 (dbl a))) ∧ w' = w := by
  have ha := b8_lt a
  cases h : a.getLsbD 7
  · obtain ⟨h1, h2⟩ := dbl_low a h
    go_enter Try.func92, Try.ntmps92
    go_wp2
    go_ret
    refine ⟨?_, rfl⟩
    rw [← h2]; rfl
  · obtain ⟨h1, h2⟩ := dbl_high a h
    go_enter Try.func92, Try.ntmps92
    go_wp2
    go_ret
    exact ⟨rfl, rfl⟩
theorem accBit (a b : B8) (k : Nat) (h : b.getLsbD k = true) : bits .xor .u8 (b8 (acc a b k) : Int) (b8 (dbls k a) : Int) = (b8 (acc a b (k + 1)) : Int) := by
  rw [xor_b8]; show _ = ((b8 (acc a b k ^^^ cx (b.getLsbD k) (dbls k a)) : Nat) : Int); rw [h]; rfl
theorem accNot (a b : B8) (k : Nat) (h : b.getLsbD k = false) : acc a b (k + 1) = acc a b k := by
  show acc a b k ^^^ cx (b.getLsbD k) (dbls k a) = _; rw [h]; exact BitVec.xor_zero
set_option maxHeartbeats 1000000 in
theorem times_any (a b : B8) (w : World) :
    Calls Try.prog 80 #[.int .u8 (b8 a), .int .u8 (b8 b)] w fun e w' => e = .returned (.int .u8 (b8 (tm a b))) ∧ w' = w := by
  have HD := Hid.mk' (fun x => doubled_any x w)
  have hb := b8_lt b
  go_enter Try.func80, Try.ntmps80
  go_wp2
  go_loopw [0, 5, 7] (fun x p i wr => ∃ k : Nat, k ≤ 8 ∧ i = .int .i64 k ∧ x = .int .u8 (b8 (dbls k a)) ∧ p = .int .u8 (b8 (acc a b k)) ∧ wr = w) (fun _ _ i _ => 8 - (intOf i).toNat)
  case atStart => exact ⟨0, by decide, rfl, rfl, rfl, rfl⟩
  case round =>
    obtain ⟨k, hk, rfl, rfl, rfl, rfl⟩ := hrel
    by_cases hlt : k < 8
    · have hlti : (k : Int) < 8 := by omega
      have hbit := bit_at b k hlt
      have hx := b8_lt (dbls k a)
      have hp := b8_lt (acc a b k)
      cases hg : b.getLsbD k
      · rw [hg, if_neg (by decide)] at hbit
        have HA := Hid.mk' (accNot a b k hg)
        clear hg
        go_wp2_with fail
        refine Calls.mono (HD.out _) ?_
        rintro e w' ⟨rfl, rfl⟩
        go_wp2
        refine ⟨⟨k + 1, by omega, by go_num, rfl, by rw [HA.out], trivial⟩, by simp [intOf]; omega⟩
      · rw [hg, if_pos rfl] at hbit
        have hacc := accBit a b k hg
        clear hg
        go_wp2_with fail
        refine Calls.mono (HD.out _) ?_
        rintro e w' ⟨rfl, rfl⟩
        go_wp2
        refine ⟨⟨k + 1, by omega, by go_num, rfl, rfl, trivial⟩, by simp [intOf]; omega⟩
    · have hk8 : k = 8 := by omega
      subst hk8
      go_wp2
      go_ret
      exact ⟨rfl, rfl⟩
end Go.Proofs.Ythmjdebnjcopnaa
/- A block cipher over bytes of the field: words of a key, states, and the way back. -/
namespace Go.Proofs.Ythmjdebnjcopnaa
open Go.RowKit

/-- Bytes as numbers. -/
def nts (l : List B8) : List Nat := l.map b8
theorem nts_len (l : List B8) : (nts l).length = l.length := by simp [nts]
theorem nts_lt (l : List B8) : ∀ z ∈ nts l, z < 256 := by
  intro z hz
  obtain ⟨x, _, rfl⟩ := List.mem_map.1 hz
  exact b8_lt x
/-- The byte i of a list. -/
def at8 (l : List B8) (i : Nat) : B8 := l.getD i 0
theorem nts_at (l : List B8) (i : Nat) (h : i < l.length) : (nts l)[i]? = some (b8 (at8 l i)) := by
  simp [nts, at8, List.getD, h]
def mk16 (f : Nat → B8) : List B8 := (List.range 16).map f
theorem mk16_len (f : Nat → B8) : (mk16 f).length = 16 := by simp [mk16]
theorem mk16_at (f : Nat → B8) (i : Nat) (h : i < 16) : at8 (mk16 f) i = f i := by simp [mk16, at8, List.getD, h]
theorem at8_ext {a b : List B8} (ha : a.length = 16) (hb : b.length = 16) (h : ∀ i, i < 16 → at8 a i = at8 b i) : a = b := by
  apply List.ext_getElem (by omega)
  intro i h1 h2
  have := h i (by omega)
  simpa [at8, List.getD, h1, h2] using this
theorem mk16_eta {a : List B8} (ha : a.length = 16) : mk16 (at8 a) = a := at8_ext (mk16_len _) ha (fun i hi => mk16_at _ i hi)

/-- A state xor the key of a round. -/
def addK (W : List (List B8)) (r : Nat) (b : List B8) : List B8 := mk16 fun i => at8 b i ^^^ at8 (W.getD (4 * r + i / 4) []) (i % 4)
/-- Each byte its box, the rows turned. -/
def subs (b : List B8) : List B8 := mk16 fun i => bx (at8 b (4 * ((i / 4 + i % 4) % 4) + i % 4))
def unsubs (b : List B8) : List B8 := mk16 fun i => bk (at8 b (4 * ((i / 4 + (4 - i % 4)) % 4) + i % 4))
/-- A column by four factors, turned from row to row. -/
def mixSum (f b : List B8) (i : Nat) : Nat → B8
  | 0 => 0
  | j + 1 => mixSum f b i j ^^^ tm (at8 f ((j + 4 - i % 4) % 4)) (at8 b (4 * (i / 4) + j))
def mixBy (f b : List B8) : List B8 := mk16 fun i => mixSum f b i 4
def fwd : List B8 := [2#8, 3#8, 1#8, 1#8]
def rev : List B8 := [14#8, 11#8, 13#8, 9#8]

/-- The state behind round r, of rounds 0 to last. -/
def encR (W : List (List B8)) (last : Nat) (b : List B8) : Nat → List B8
  | 0 => addK W 0 b
  | r + 1 => addK W (r + 1) (if r + 1 < last then mixBy fwd (subs (encR W last b r)) else subs (encR W last b r))
def enc (W : List (List B8)) (b : List B8) : List B8 := encR W (W.length / 4 - 1) b (W.length / 4 - 1)
/-- One round led back. -/
def decStep (W : List (List B8)) (last r : Nat) (b : List B8) : List B8 := unsubs (if r < last then mixBy rev (addK W r b) else addK W r b)
/-- The state behind n rounds led back, from the last one. -/
def decR (W : List (List B8)) (last : Nat) (b : List B8) : Nat → List B8
  | 0 => b
  | n + 1 => decStep W last (last - n) (decR W last b n)
def dec (W : List (List B8)) (b : List B8) : List B8 := addK W 0 (decR W (W.length / 4 - 1) b (W.length / 4 - 1))

theorem addK_len (W : List (List B8)) (r : Nat) (b : List B8) : (addK W r b).length = 16 := mk16_len _
theorem subs_len (b : List B8) : (subs b).length = 16 := mk16_len _
theorem unsubs_len (b : List B8) : (unsubs b).length = 16 := mk16_len _
theorem mixBy_len (f b : List B8) : (mixBy f b).length = 16 := mk16_len _
theorem encR_len (W : List (List B8)) (last : Nat) (b : List B8) (r : Nat) : (encR W last b r).length = 16 := by
  cases r <;> exact addK_len _ _ _
theorem addK_addK (W : List (List B8)) (r : Nat) (b : List B8) (hb : b.length = 16) : addK W r (addK W r b) = b := by
  refine at8_ext (addK_len _ _ _) hb (fun i hi => ?_)
  unfold addK
  rw [mk16_at _ i hi, mk16_at _ i hi, BitVec.xor_assoc, BitVec.xor_self, BitVec.xor_zero]
theorem idx1 : ∀ i, i < 16 → (4 * ((i / 4 + (4 - i % 4)) % 4) + i % 4 < 16) ∧ (4 * ((i / 4 + i % 4) % 4) + i % 4 < 16) ∧
    (4 * (((4 * ((i / 4 + (4 - i % 4)) % 4) + i % 4) / 4 + (4 * ((i / 4 + (4 - i % 4)) % 4) + i % 4) % 4) % 4) + (4 * ((i / 4 + (4 - i % 4)) % 4) + i % 4) % 4 = i) ∧
    (4 * (((4 * ((i / 4 + i % 4) % 4) + i % 4) / 4 + (4 - (4 * ((i / 4 + i % 4) % 4) + i % 4) % 4)) % 4) + (4 * ((i / 4 + i % 4) % 4) + i % 4) % 4 = i) := by decide
theorem unsubs_subs (b : List B8) (hb : b.length = 16) : unsubs (subs b) = b := by
  refine at8_ext (unsubs_len _) hb (fun i hi => ?_)
  obtain ⟨h1, _, h3, _⟩ := idx1 i hi
  unfold unsubs subs
  rw [mk16_at _ i hi, mk16_at _ _ h1, bk_bx, h3]
theorem subs_unsubs (b : List B8) (hb : b.length = 16) : subs (unsubs b) = b := by
  refine at8_ext (subs_len _) hb (fun i hi => ?_)
  obtain ⟨_, h2, _, h4⟩ := idx1 i hi
  unfold unsubs subs
  rw [mk16_at _ i hi, mk16_at _ _ h2, bx_bk, h4]

/-- A column of four bytes by four factors: its byte r. -/
def colBy (f0 f1 f2 f3 a0 a1 a2 a3 : B8) : B8 := tm f0 a0 ^^^ tm f1 a1 ^^^ tm f2 a2 ^^^ tm f3 a3
theorem mixBy_at (f b : List B8) (c : Nat) (hc : c < 4) :
    at8 (mixBy f b) (4 * c) = colBy (at8 f 0) (at8 f 1) (at8 f 2) (at8 f 3) (at8 b (4 * c)) (at8 b (4 * c + 1)) (at8 b (4 * c + 2)) (at8 b (4 * c + 3)) ∧
    at8 (mixBy f b) (4 * c + 1) = colBy (at8 f 3) (at8 f 0) (at8 f 1) (at8 f 2) (at8 b (4 * c)) (at8 b (4 * c + 1)) (at8 b (4 * c + 2)) (at8 b (4 * c + 3)) ∧
    at8 (mixBy f b) (4 * c + 2) = colBy (at8 f 2) (at8 f 3) (at8 f 0) (at8 f 1) (at8 b (4 * c)) (at8 b (4 * c + 1)) (at8 b (4 * c + 2)) (at8 b (4 * c + 3)) ∧
    at8 (mixBy f b) (4 * c + 3) = colBy (at8 f 1) (at8 f 2) (at8 f 3) (at8 f 0) (at8 b (4 * c)) (at8 b (4 * c + 1)) (at8 b (4 * c + 2)) (at8 b (4 * c + 3)) := by
  have e : ∀ r, r < 4 → (4 * c + r) / 4 = c ∧ (4 * c + r) % 4 = r := fun r hr => by omega
  unfold mixBy colBy
  refine ⟨?_, ?_, ?_, ?_⟩
  · rw [mk16_at _ _ (by omega)]
    have := e 0 (by decide)
    simp only [Nat.add_zero] at this
    simp [mixSum, this.1]
  · rw [mk16_at _ _ (by omega)]
    have := e 1 (by decide)
    simp [mixSum, this.1, this.2]
  · rw [mk16_at _ _ (by omega)]
    have := e 2 (by decide)
    simp [mixSum, this.1, this.2]
  · rw [mk16_at _ _ (by omega)]
    have := e 3 (by decide)
    simp [mixSum, this.1, this.2]
/-- What leads back: by factors whose products with the others are one at one place and nothing at the others. -/
theorem col_back (f0 f1 f2 f3 g0 g1 g2 g3 : B8) (a0 a1 a2 a3 : B8)
    (e0 : tm g0 f0 ^^^ tm g1 f3 ^^^ tm g2 f2 ^^^ tm g3 f1 = 1#8) (e1 : tm g0 f1 ^^^ tm g1 f0 ^^^ tm g2 f3 ^^^ tm g3 f2 = 0#8)
    (e2 : tm g0 f2 ^^^ tm g1 f1 ^^^ tm g2 f0 ^^^ tm g3 f3 = 0#8) (e3 : tm g0 f3 ^^^ tm g1 f2 ^^^ tm g2 f1 ^^^ tm g3 f0 = 0#8) :
    colBy g0 g1 g2 g3 (colBy f0 f1 f2 f3 a0 a1 a2 a3) (colBy f3 f0 f1 f2 a0 a1 a2 a3) (colBy f2 f3 f0 f1 a0 a1 a2 a3) (colBy f1 f2 f3 f0 a0 a1 a2 a3) = a0 := by
  unfold colBy
  simp only [tm_add, tm_assoc]
  have h0 : tm (tm g0 f0) a0 ^^^ tm (tm g1 f3) a0 ^^^ tm (tm g2 f2) a0 ^^^ tm (tm g3 f1) a0 = a0 := by
    rw [← tm_left a0, ← tm_left a0, ← tm_left a0, e0]; exact one_tm a0
  have h1 : tm (tm g0 f1) a1 ^^^ tm (tm g1 f0) a1 ^^^ tm (tm g2 f3) a1 ^^^ tm (tm g3 f2) a1 = 0#8 := by
    rw [← tm_left a1, ← tm_left a1, ← tm_left a1, e1]; exact zero_tm a1
  have h2 : tm (tm g0 f2) a2 ^^^ tm (tm g1 f1) a2 ^^^ tm (tm g2 f0) a2 ^^^ tm (tm g3 f3) a2 = 0#8 := by
    rw [← tm_left a2, ← tm_left a2, ← tm_left a2, e2]; exact zero_tm a2
  have h3 : tm (tm g0 f3) a3 ^^^ tm (tm g1 f2) a3 ^^^ tm (tm g2 f1) a3 ^^^ tm (tm g3 f0) a3 = 0#8 := by
    rw [← tm_left a3, ← tm_left a3, ← tm_left a3, e3]; exact zero_tm a3
  have hs : ∀ p0 p1 p2 p3 q0 q1 q2 q3 r0 r1 r2 r3 s0 s1 s2 s3 : B8, (p0 ^^^ p1 ^^^ p2 ^^^ p3) ^^^ (q0 ^^^ q1 ^^^ q2 ^^^ q3) ^^^ (r0 ^^^ r1 ^^^ r2 ^^^ r3) ^^^ (s0 ^^^ s1 ^^^ s2 ^^^ s3) = (p0 ^^^ q0 ^^^ r0 ^^^ s0) ^^^ (p1 ^^^ q1 ^^^ r1 ^^^ s1) ^^^ (p2 ^^^ q2 ^^^ r2 ^^^ s2) ^^^ (p3 ^^^ q3 ^^^ r3 ^^^ s3) := by
    intros; ac_rfl
  rw [hs, h0, h1, h2, h3]
  simp
theorem cols_ext {a b : List B8} (ha : a.length = 16) (hb : b.length = 16) (h : ∀ c, c < 4 → at8 a (4 * c) = at8 b (4 * c) ∧ at8 a (4 * c + 1) = at8 b (4 * c + 1) ∧ at8 a (4 * c + 2) = at8 b (4 * c + 2) ∧ at8 a (4 * c + 3) = at8 b (4 * c + 3)) : a = b := by
  refine at8_ext ha hb (fun i hi => ?_)
  obtain ⟨h0, h1, h2, h3⟩ := h (i / 4) (by omega)
  have hr : i % 4 = 0 ∨ i % 4 = 1 ∨ i % 4 = 2 ∨ i % 4 = 3 := by omega
  rcases hr with hr | hr | hr | hr
  · rwa [show 4 * (i / 4) = i by omega] at h0
  · rwa [show 4 * (i / 4) + 1 = i by omega] at h1
  · rwa [show 4 * (i / 4) + 2 = i by omega] at h2
  · rwa [show 4 * (i / 4) + 3 = i by omega] at h3
theorem ct1 (f0 f1 f2 f3 a0 a1 a2 a3 : B8) : colBy f0 f1 f2 f3 a0 a1 a2 a3 = colBy f1 f2 f3 f0 a1 a2 a3 a0 := by unfold colBy; ac_rfl
theorem col_back1 (f0 f1 f2 f3 g0 g1 g2 g3 : B8) (h : ∀ a0 a1 a2 a3 : B8, colBy g0 g1 g2 g3 (colBy f0 f1 f2 f3 a0 a1 a2 a3) (colBy f3 f0 f1 f2 a0 a1 a2 a3) (colBy f2 f3 f0 f1 a0 a1 a2 a3) (colBy f1 f2 f3 f0 a0 a1 a2 a3) = a0) (a0 a1 a2 a3 : B8) :
    colBy g3 g0 g1 g2 (colBy f0 f1 f2 f3 a0 a1 a2 a3) (colBy f3 f0 f1 f2 a0 a1 a2 a3) (colBy f2 f3 f0 f1 a0 a1 a2 a3) (colBy f1 f2 f3 f0 a0 a1 a2 a3) = a1 ∧
    colBy g2 g3 g0 g1 (colBy f0 f1 f2 f3 a0 a1 a2 a3) (colBy f3 f0 f1 f2 a0 a1 a2 a3) (colBy f2 f3 f0 f1 a0 a1 a2 a3) (colBy f1 f2 f3 f0 a0 a1 a2 a3) = a2 ∧
    colBy g1 g2 g3 g0 (colBy f0 f1 f2 f3 a0 a1 a2 a3) (colBy f3 f0 f1 f2 a0 a1 a2 a3) (colBy f2 f3 f0 f1 a0 a1 a2 a3) (colBy f1 f2 f3 f0 a0 a1 a2 a3) = a3 := by
  have step : ∀ g0 g1 g2 g3 a0 a1 a2 a3 : B8, colBy g3 g0 g1 g2 (colBy f0 f1 f2 f3 a0 a1 a2 a3) (colBy f3 f0 f1 f2 a0 a1 a2 a3) (colBy f2 f3 f0 f1 a0 a1 a2 a3) (colBy f1 f2 f3 f0 a0 a1 a2 a3) =
      colBy g0 g1 g2 g3 (colBy f0 f1 f2 f3 a1 a2 a3 a0) (colBy f3 f0 f1 f2 a1 a2 a3 a0) (colBy f2 f3 f0 f1 a1 a2 a3 a0) (colBy f1 f2 f3 f0 a1 a2 a3 a0) := by
    intro g0 g1 g2 g3 a0 a1 a2 a3
    rw [← ct1 f3 f0 f1 f2 a0 a1 a2 a3, ← ct1 f2 f3 f0 f1 a0 a1 a2 a3, ← ct1 f1 f2 f3 f0 a0 a1 a2 a3, ← ct1 f0 f1 f2 f3 a0 a1 a2 a3]
    exact ct1 _ _ _ _ _ _ _ _
  refine ⟨(step _ _ _ _ _ _ _ _).trans (h _ _ _ _), ?_, ?_⟩
  · exact (step _ _ _ _ _ _ _ _).trans ((step _ _ _ _ _ _ _ _).trans (h _ _ _ _))
  · exact (step _ _ _ _ _ _ _ _).trans ((step _ _ _ _ _ _ _ _).trans ((step _ _ _ _ _ _ _ _).trans (h _ _ _ _)))
/-- Factors that lead one another back. -/
theorem mix_back (f g b : List B8) (hb : b.length = 16)
    (e0 : tm (at8 g 0) (at8 f 0) ^^^ tm (at8 g 1) (at8 f 3) ^^^ tm (at8 g 2) (at8 f 2) ^^^ tm (at8 g 3) (at8 f 1) = 1#8) (e1 : tm (at8 g 0) (at8 f 1) ^^^ tm (at8 g 1) (at8 f 0) ^^^ tm (at8 g 2) (at8 f 3) ^^^ tm (at8 g 3) (at8 f 2) = 0#8)
    (e2 : tm (at8 g 0) (at8 f 2) ^^^ tm (at8 g 1) (at8 f 1) ^^^ tm (at8 g 2) (at8 f 0) ^^^ tm (at8 g 3) (at8 f 3) = 0#8) (e3 : tm (at8 g 0) (at8 f 3) ^^^ tm (at8 g 1) (at8 f 2) ^^^ tm (at8 g 2) (at8 f 1) ^^^ tm (at8 g 3) (at8 f 0) = 0#8) :
    mixBy g (mixBy f b) = b := by
  refine cols_ext (mixBy_len _ _) hb (fun c hc => ?_)
  obtain ⟨q0, q1, q2, q3⟩ := mixBy_at g (mixBy f b) c hc
  obtain ⟨p0, p1, p2, p3⟩ := mixBy_at f b c hc
  have key : ∀ a0 a1 a2 a3 : B8, colBy (at8 g 0) (at8 g 1) (at8 g 2) (at8 g 3) (colBy (at8 f 0) (at8 f 1) (at8 f 2) (at8 f 3) a0 a1 a2 a3) (colBy (at8 f 3) (at8 f 0) (at8 f 1) (at8 f 2) a0 a1 a2 a3) (colBy (at8 f 2) (at8 f 3) (at8 f 0) (at8 f 1) a0 a1 a2 a3) (colBy (at8 f 1) (at8 f 2) (at8 f 3) (at8 f 0) a0 a1 a2 a3) = a0 :=
    fun a0 a1 a2 a3 => col_back _ _ _ _ _ _ _ _ a0 a1 a2 a3 e0 e1 e2 e3
  rw [p0, p1, p2, p3] at q0 q1 q2 q3
  obtain ⟨k1, k2, k3⟩ := col_back1 _ _ _ _ _ _ _ _ key (at8 b (4 * c)) (at8 b (4 * c + 1)) (at8 b (4 * c + 2)) (at8 b (4 * c + 3))
  exact ⟨q0.trans (key _ _ _ _), q1.trans k1, q2.trans k2, q3.trans k3⟩
theorem rev_fwd (b : List B8) (hb : b.length = 16) : mixBy rev (mixBy fwd b) = b := mix_back _ _ b hb (by decide +kernel) (by decide +kernel) (by decide +kernel) (by decide +kernel)
theorem fwd_rev (b : List B8) (hb : b.length = 16) : mixBy fwd (mixBy rev b) = b := mix_back _ _ b hb (by decide +kernel) (by decide +kernel) (by decide +kernel) (by decide +kernel)

theorem decStep_len (W : List (List B8)) (last r : Nat) (b : List B8) : (decStep W last r b).length = 16 := unsubs_len _
theorem decR_len (W : List (List B8)) (last : Nat) (b : List B8) (hb : b.length = 16) (n : Nat) : (decR W last b n).length = 16 := by
  cases n
  · exact hb
  · exact decStep_len _ _ _ _
theorem step_back (W : List (List B8)) (last r : Nat) (s : List B8) (hs : s.length = 16) : decStep W last r (addK W r (if r < last then mixBy fwd (subs s) else subs s)) = s := by
  unfold decStep
  by_cases h : r < last
  · simp only [h, if_true]
    rw [addK_addK _ _ _ (mixBy_len _ _), rev_fwd _ (subs_len _), unsubs_subs s hs]
  · simp only [h, if_false]
    rw [addK_addK _ _ _ (subs_len _), unsubs_subs s hs]
theorem step_fwd (W : List (List B8)) (last r : Nat) (s : List B8) (hs : s.length = 16) : addK W r (if r < last then mixBy fwd (subs (decStep W last r s)) else subs (decStep W last r s)) = s := by
  unfold decStep
  by_cases h : r < last
  · simp only [h, if_true]
    rw [subs_unsubs _ (mixBy_len _ _), fwd_rev _ (addK_len _ _ _), addK_addK _ _ _ hs]
  · simp only [h, if_false]
    rw [subs_unsubs _ (addK_len _ _ _), addK_addK _ _ _ hs]
theorem decR_enc (W : List (List B8)) (last : Nat) (b : List B8) (n : Nat) (hn : n ≤ last) : decR W last (encR W last b last) n = encR W last b (last - n) := by
  induction n with
  | zero => rfl
  | succ n ih =>
    show decStep W last (last - n) (decR W last (encR W last b last) n) = _
    rw [ih (by omega)]
    obtain ⟨m, hm⟩ : ∃ m, last - n = m + 1 := ⟨last - n - 1, by omega⟩
    rw [hm, show last - (n + 1) = m by omega]
    exact step_back W last (m + 1) _ (encR_len _ _ _ _)
theorem dec_enc (W : List (List B8)) (b : List B8) (hb : b.length = 16) : dec W (enc W b) = b := by
  unfold dec enc
  rw [decR_enc _ _ _ _ (Nat.le_refl _), Nat.sub_self]
  exact addK_addK W 0 b hb
theorem encR_dec (W : List (List B8)) (last : Nat) (b : List B8) (hb : b.length = 16) (n : Nat) (hn : n ≤ last) : encR W last (addK W 0 (decR W last b last)) n = decR W last b (last - n) := by
  induction n with
  | zero => exact addK_addK W 0 _ (decR_len W last b hb _)
  | succ n ih =>
    show addK W (n + 1) (if n + 1 < last then mixBy fwd (subs (encR W last _ n)) else subs (encR W last _ n)) = _
    rw [ih (by omega)]
    obtain ⟨m, hm⟩ : ∃ m, last - n = m + 1 := ⟨last - n - 1, by omega⟩
    rw [hm, show last - (n + 1) = m by omega]
    show addK W (n + 1) (if n + 1 < last then mixBy fwd (subs (decStep W last (last - m) _)) else subs (decStep W last (last - m) _)) = _
    rw [show last - m = n + 1 by omega]
    exact step_fwd W last (n + 1) _ (decR_len W last b hb m)
theorem enc_dec (W : List (List B8)) (b : List B8) (hb : b.length = 16) : enc W (dec W b) = b := by
  unfold dec enc
  rw [encR_dec _ _ _ hb _ (Nat.le_refl _), Nat.sub_self]
  rfl

/-- The words of a key. -/
def wordOf (key : List B8) (i : Nat) : List B8 := [at8 key (4 * i), at8 key (4 * i + 1), at8 key (4 * i + 2), at8 key (4 * i + 3)]
def turned (n i : Nat) (t : List B8) : List B8 :=
  if i % n = 0 then [bx (at8 t 1) ^^^ pw 2#8 (i / n - 1), bx (at8 t 2), bx (at8 t 3), bx (at8 t 0)]
  else if n = 8 ∧ i % 8 = 4 then [bx (at8 t 0), bx (at8 t 1), bx (at8 t 2), bx (at8 t 3)] else t
def xor4 (a b : List B8) : List B8 := [at8 a 0 ^^^ at8 b 0, at8 a 1 ^^^ at8 b 1, at8 a 2 ^^^ at8 b 2, at8 a 3 ^^^ at8 b 3]
/-- The first words: n of the key, then m more. -/
def kws (key : List B8) (n : Nat) : Nat → List (List B8)
  | 0 => (List.range n).map (wordOf key)
  | m + 1 => kws key n m ++ [xor4 ((kws key n m).getD (n + m - n) []) (turned n (n + m) ((kws key n m).getD (n + m - 1) []))]
/-- All words of a key. -/
def words (key : List B8) : List (List B8) := kws key (key.length / 4) (3 * (key.length / 4) + 28)
theorem kws_len (key : List B8) (n m : Nat) : (kws key n m).length = n + m := by
  induction m with
  | zero => simp [kws]
  | succ m ih => simp [kws, ih, Nat.add_assoc]
theorem xor4_len (a b : List B8) : (xor4 a b).length = 4 := rfl
theorem kws_four (key : List B8) (n m : Nat) : ∀ x ∈ kws key n m, x.length = 4 := by
  induction m with
  | zero =>
    intro x hx
    obtain ⟨i, _, rfl⟩ := List.mem_map.1 hx
    rfl
  | succ m ih =>
    intro x hx
    rcases List.mem_append.1 hx with h | h
    · exact ih x h
    · rw [List.mem_singleton.1 h]; rfl
theorem words_len (key : List B8) : (words key).length = key.length / 4 + (3 * (key.length / 4) + 28) := kws_len _ _ _
theorem words_four (key : List B8) : ∀ x ∈ words key, x.length = 4 := kws_four _ _ _
theorem at8_set (l : List B8) (m i : Nat) (x : B8) (hm : m < l.length) : at8 (l.set m x) i = if i = m then x else at8 l i := by
  by_cases h : i = m
  · subst h; simp [at8, List.getD, hm]
  · rw [if_neg h]; unfold at8 List.getD; rw [List.getElem?_set_ne (fun e => h e.symm)]
theorem nts_set (l : List B8) (m : Nat) (x : B8) : nts (l.set m x) = (nts l).set m (b8 x) := by simp [nts, List.map_set]
theorem blk_nts {w : World} {g : Nat} {T : TypeId} {l : List B8} (h : Blk w g T (u8s (nts l))) (i : Nat) (hi : i < l.length) : w.cell? ⟨g, i, none⟩ = some (.int .u8 (b8 (at8 l i) : Nat)) := by
  rw [h.cell]
  have e := nts_at l i hi
  unfold u8s
  rw [List.getElem?_map, e]; rfl
theorem blk_nts_set {w : World} {g : Nat} {T : TypeId} {l : List B8} (h : Blk w g T (u8s (nts l))) (i : Nat) (x : B8) : Blk (w.setCell ⟨g, i, none⟩ (.int .u8 (b8 x : Nat))) g T (u8s (nts (l.set i x))) := by
  rw [nts_set, ← u8s_set]; exact h.set i _
end Go.Proofs.Ythmjdebnjcopnaa
/- A region that draws its order, by what holds behind each part of it: no order is walked. -/
namespace Go.Proofs.Ythmjdebnjcopnaa
open Go.RowKit

section
variable {P : Program} {md : Region.Mode} {ops : Array Oper} {Q : Exit → Act → World → Prop}

theorem ready_open {l : List Bool} {i : Nat} (h : i ∈ Region.ready md ops l.toArray) : i < ops.size ∧ l.getD i true = false := by
  simp only [Region.ready, List.mem_filter, List.mem_range, Bool.and_eq_true, Bool.not_eq_true'] at h
  refine ⟨h.1, ?_⟩
  have := h.2.1
  simpa using this
theorem ready_dep {l : List Bool} {i : Nat} {o : Oper} (h : i ∈ Region.ready md ops l.toArray) (ho : ops[i]? = some o) : o.after.all (fun e => !Region.binds md e || l.getD e.on false) = true := by
  simp only [Region.ready, List.mem_filter, List.mem_range, Bool.and_eq_true, ho, Option.map_some, Option.getD_some] at h
  have := h.2.2
  simpa using this
theorem ready_none {l : List Bool} (hl : l.length = ops.size) (h : l.count false = 0) : Region.ready md ops l.toArray = [] := by
  cases hr : Region.ready md ops l.toArray with
  | nil => rfl
  | cons x xs =>
    have hx := ready_open (md := md) (ops := ops) (l := l) (i := x) (by rw [hr]; exact List.mem_cons_self)
    have hlt : x < l.length := by rw [hl]; exact hx.1
    have hm : false ∈ l := by
      have e : l.getD x true = l[x] := by simp [List.getD, hlt]
      rw [← hx.2, e]; exact List.getElem_mem hlt
    exact absurd h (Nat.pos_iff_ne_zero.1 (List.count_pos_iff.2 hm))
theorem count_listed {l : List Bool} {i : Nat} (hi : i < l.length) (h : l.getD i true = false) : (l.set i true).count false + 1 = l.count false := by
  have e : l[i] = false := by simpa [List.getD, hi] using h
  have hm : 0 < l.count false := List.count_pos_iff.2 (by rw [← e]; exact List.getElem_mem hi)
  rw [List.count_set hi]
  simp [e]; omega

theorem wpAny_inv (J : List Bool → Act → World → Prop)
    (step : ∀ l a w i o, J l a w → l.length = ops.size → i ∈ Region.ready md ops l.toArray → ops[i]? = some o → o.wp P a w (J (l.set i true)) Q)
    (hg : ops.all (fun o => o.guard.isNone) = true)
    (fin : ∀ l a w, J l a w → l.length = ops.size → Region.ready md ops l.toArray = [] → Q .normal a w) :
    ∀ (fuel : Nat) (l : List Bool) (a : Act) (w : World), l.length = ops.size → l.count false ≤ fuel → J l a w → wpAny P md ops Q fuel l.toArray a w := by
  intro fuel
  induction fuel with
  | zero =>
    intro l a w hl hc hj
    have hr := ready_none (md := md) hl (by omega)
    exact ⟨hr, fin l a w hj hl hr⟩
  | succ fuel ih =>
    intro l a w hl hc hj
    refine ⟨fun hr => fin l a w hj hl hr, fun i hi => ?_⟩
    obtain ⟨hlt, hf⟩ := ready_open hi
    have hlt' : i < l.length := by omega
    have ho : ops[i]? = some ops[i] := by simp [hlt]
    have hst := step l a w i _ hj hl hi ho
    have e : l.toArray.setIfInBounds i true = (l.set i true).toArray := by simp
    rw [e]
    have hw : Region.wanted ops[i] (yielded ops a.tmps) = true := by
      have h' : (ops[i]).guard.isNone = true := by
        rw [Array.all_eq_true] at hg
        exact hg i hlt
      have h2 : (ops[i]).guard = none := by simpa using h'
      simp [Region.wanted, h2]
    unfold wpOp
    rw [ho]
    simp only [hw, if_true]
    refine .inl (Oper.wp_mono (fun a' w' hj' => ih _ a' w' (by simp [hl]) ?_ hj') hst)
    have := count_listed hlt' hf
    omega

/-- Each operation waits only for ones ahead of it. -/
def ahead (ops : Array Oper) : Bool := (List.range ops.size).all fun i => ((ops[i]?).map fun o => o.after.all fun e => !Region.binds .any e || decide (e.on < i)).getD true
theorem ready_all {l : List Bool} (ha : ahead ops = true) (hl : l.length = ops.size) (hr : Region.ready .any ops l.toArray = []) : l = List.replicate ops.size true := by
  have key : ∀ n i, i ≤ n → i < ops.size → l.getD i false = true := by
    intro n
    induction n with
    | zero =>
      intro i hi hlt
      obtain rfl : i = 0 := by omega
      cases h : l.getD 0 false with
      | true => rfl
      | false =>
        exfalso
        have hm : 0 ∈ Region.ready .any ops l.toArray := by
          simp only [Region.ready, List.mem_filter, List.mem_range, Bool.and_eq_true]
          refine ⟨hlt, ?_, ?_⟩
          · have : l[0]? = some l[0] := List.getElem?_eq_getElem (by omega)
            simp [List.getD, this] at h
            simp [this, h]
          · have ho : ops[0]? = some ops[0] := by simp [hlt]
            simp only [ho, Option.map_some, Option.getD_some, Array.all_eq_true]
            intro j hj
            have h2 := (List.all_eq_true.1 ha) 0 (by simpa using hlt)
            simp only [ho, Option.map_some, Option.getD_some, Array.all_eq_true] at h2
            have := h2 j hj
            simp at this
            simp [this]
        rw [hr] at hm; cases hm
    | succ n ih =>
      intro i hi hlt
      cases h : l.getD i false with
      | true => rfl
      | false =>
        exfalso
        have hm : i ∈ Region.ready .any ops l.toArray := by
          simp only [Region.ready, List.mem_filter, List.mem_range, Bool.and_eq_true]
          refine ⟨hlt, ?_, ?_⟩
          · have : l[i]? = some l[i] := List.getElem?_eq_getElem (by omega)
            simp [List.getD, this] at h
            simp [this, h]
          · have ho : ops[i]? = some ops[i] := by simp [hlt]
            simp only [ho, Option.map_some, Option.getD_some, Array.all_eq_true]
            intro j hj
            have h2 := (List.all_eq_true.1 ha) i (by simpa using hlt)
            simp only [ho, Option.map_some, Option.getD_some, Array.all_eq_true] at h2
            have h3' := h2 j hj
            rw [Bool.or_eq_true] at h3' ⊢
            rcases h3' with h3' | h3'
            · exact .inl h3'
            have h3 : ((ops[i]).after[j]).on < i := by simpa using h3'
            have h4 := ih _ (show ((ops[i]).after[j]).on ≤ n by omega) (by omega)
            right
            simpa using h4
        rw [hr] at hm; cases hm
  apply List.ext_getElem (by simpa using hl)
  intro i h1 h2
  have h3 := key i i (Nat.le_refl _) (by omega)
  simpa [List.getD, h1] using h3

/-- A region that draws: J holds at first and goes on by each operation that is ready; behind all of them it gives the post. -/
theorem region_inv {id : Nat} {a : Act} {w : World} (hm : P.follows .mixedOrders = true) (hg : ops.all (fun o => o.guard.isNone) = true) (ha : ahead ops = true) (J : List Bool → Act → World → Prop)
    (h0 : J (List.replicate ops.size false) a w.drew)
    (step : ∀ l a w i o, J l a w → l.getD i true = false → o.after.all (fun e => !Region.binds .any e || l.getD e.on false) = true → i < ops.size → ops[i]? = some o → o.wp P a w (J (l.set i true)) Q)
    (fin : ∀ a w, J (List.replicate ops.size true) a w → Q .normal a w) : (Code.region id ops true).wp P Q a w := by
  refine wp_region_any hm ?_
  have e : Array.replicate ops.size false = (List.replicate ops.size false).toArray := by simp
  rw [e]
  exact wpAny_inv J (fun l a w i o hj _ hi ho => step l a w i o hj (ready_open hi).2 (ready_dep hi ho) (ready_open hi).1 ho) hg (fun l a w hj hl hr => fin a w (by rw [← ready_all ha hl hr]; exact hj)) ops.size _ a _ (by simp) (by simp) h0

section
variable {o : Oper} {a : Act} {w w' : World} {K : Act → World → Prop}
theorem op_value (v : Value) (hrun : (execOp a.eval o).run P w = .ok (.value v) w') (h : K (a.put o.dst v) w') : o.wp P a w K Q := by
  unfold Oper.wp; rw [hrun]; exact h
theorem op_skip (hrun : (execOp a.eval o).run P w = .ok .skip w') (h : K (a.put o.dst undef) w') : o.wp P a w K Q := by
  unfold Oper.wp; rw [hrun]; exact h
theorem op_enter (f : FuncId) (args : Array Value) (hrun : (execOp a.eval o).run P w = .ok (.enter f args) w) (h : Calls P f args w fun e w'' => ∃ v, e = .returned v ∧ K (a.put o.dst v) w'') : o.wp P a w K Q := by
  unfold Oper.wp; rw [hrun, Oper.upon_enter]
  refine h.mono fun e w'' hh => ?_
  obtain ⟨v, rfl, hk⟩ := hh
  exact hk
/-- A variable is made. -/
theorem op_alloc (T : TypeId) (Z : Array Value) (ho : o.op = .alloc T) (hz : (zeroValue T).run P w = .ok (.agg Z) w)
    (h : K (a.put o.dst (.pointer (some ⟨w.heap.size, 0, none⟩))) (w.alloc (.cells Z T))) : o.wp P a w K Q := by
  refine op_value (.pointer (some ⟨w.heap.size, 0, none⟩)) ?_ h
  simp [execOp, ho, go_sem, hz]
/-- A function of the program is called. -/
theorem op_call (f : FuncId) (A : List Operand) (T : Array TypeId) (args : Array Value) (ho : o.op = .call { callee := .value (.func f), args := A.toArray, argTypes := T }) (hA : (A.map a.eval).toArray = args) (hf : (callFunc f args).run P w = .ok (.enter f args) w)
    (h : Calls P f args w fun e w'' => ∃ v, e = .returned v ∧ K (a.put o.dst v) w'') : o.wp P a w K Q := by
  refine op_enter f args ?_ h
  subst hA
  simp [execOp, ho, go_sem, Act.eval, hf]
/-- A slice of all of a variable, or of a slice. -/
theorem op_slice (T : TypeId) (x : Operand) (u v : Value) (ho : o.op = .slice T x none none none) (hx : a.eval x = u) (hr : (Instr.sliceAt T u none none none).run P w = .ok v w)
    (h : K (a.put o.dst v) w) : o.wp P a w K Q := by
  refine op_value v ?_ h
  unfold execOp
  simp only [ho, Option.map_none, hx]
  simp only [Sem.run_bind, hr, Result.andThen_ok, Sem.run_pure]
end
end
end Go.Proofs.Ythmjdebnjcopnaa
/- A region that draws its order, whose operations only read but for the last one, which waits for all the others. -/
namespace Go.Proofs.Ythmjdebnjcopnaa
open Go.RowKit

section
variable {P : Program} {l : List Oper} {o : Oper} {Q : Exit → Act → World → Prop}

/-- x waits for the operation j. -/
def waitsFor (x : Oper) (j : Nat) : Bool := x.after.any fun e => Region.binds .any e && e.on == j
/-- Each operation is waited for by a later one, or by the last one. -/
def lastFull (l : List Oper) (o : Oper) : Bool :=
  (List.range l.length).all fun j => waitsFor o j || (List.range l.length).any fun i => decide (j < i) && ((l[i]?).map fun x => waitsFor x j).getD false
def Closed (l : List Oper) (s : List Bool) : Prop := ∀ i x, l[i]? = some x → s.getD i false = true → ∀ j, waitsFor x j = true → s.getD j false = true

theorem dep_done {x : Oper} {s : List Bool} (h : x.after.all (fun e => !Region.binds .any e || s.getD e.on false) = true) (j : Nat) (hj : waitsFor x j = true) : s.getD j false = true := by
  unfold waitsFor at hj
  rw [Array.any_eq_true] at hj
  obtain ⟨k, hk, hk2⟩ := hj
  simp only [Bool.and_eq_true, beq_iff_eq] at hk2
  rw [Array.all_eq_true] at h
  have := h k hk
  rw [hk2.1, hk2.2] at this
  simpa using this
theorem all_done {s : List Bool} (hf : lastFull l o = true) (hc : Closed l s) (ho : ∀ j, j < l.length → waitsFor o j = true → s.getD j false = true) : ∀ n j, l.length - j ≤ n → j < l.length → s.getD j false = true := by
  intro n
  induction n with
  | zero => intro j h1 h2; omega
  | succ n ih =>
    intro j h1 h2
    have h := List.all_eq_true.1 hf j (by simpa using h2)
    rw [Bool.or_eq_true] at h
    rcases h with h | h
    · exact ho j h2 h
    · obtain ⟨i, hi, h3⟩ := List.any_eq_true.1 h
      simp only [Bool.and_eq_true, decide_eq_true_eq] at h3
      have hil : i < l.length := by simpa using hi
      have hx : l[i]? = some l[i] := List.getElem?_eq_getElem hil
      rw [hx] at h3
      exact hc i _ hx (ih i (by omega) hil) j (by simpa using h3.2)
theorem getD_snoc {s : List Bool} {i : Nat} {d : Bool} (hi : i < s.length) : (s ++ [false]).getD i d = s.getD i d := by
  simp [List.getD, List.getElem?_append_left hi]

theorem last_inv {C : World → Prop} {Qq : Act → Prop} (hg : l.all (fun x => x.guard.isNone) = true) (hgo : o.guard = none) (ha : ahead (l ++ [o]).toArray = true) (hf : lastFull l o = true)
    (hQ : ∀ a w, C w → Qq a → wpList P (l ++ [o]).toArray Q [o] a w) :
    ∀ (fuel : Nat) (s : List Bool) (a : Act) (w : World), s.length = l.length → s.count false ≤ fuel → Closed l s → C w → wpAnyQ P .any l.toArray C Qq fuel s.toArray a → wpAny P .any (l ++ [o]).toArray Q (fuel + 1) (s ++ [false]).toArray a w := by
  have hlast : ∀ (fuel : Nat) (s : List Bool) (a : Act) (w : World), s.length = l.length → (∀ j, j < l.length → s.getD j false = true) → C w → Qq a → wpOp P (l ++ [o]).toArray Q l.length (wpAny P .any (l ++ [o]).toArray Q fuel ((s ++ [false]).toArray.setIfInBounds l.length true)) a w := by
    intro fuel s a w hs hall hC hq
    unfold wpOp
    have e : (l ++ [o]).toArray[l.length]? = some o := by simp
    rw [e]
    simp only [Region.wanted, hgo, if_true]
    have hq2 := hQ a w hC hq
    unfold wpList at hq2
    simp only [Region.wanted, hgo, if_true] at hq2
    refine hq2.imp (Oper.wp_mono (fun a' w' h' => ?_)) id
    have e2 : (s ++ [false]).toArray.setIfInBounds l.length true = (s ++ [true]).toArray := by simp [← hs]
    rw [e2]
    have hn : Region.ready .any (l ++ [o]).toArray (s ++ [true]).toArray = [] := by
      refine ready_none (by simp [hs]) ?_
      rw [List.count_eq_zero]
      intro hm
      obtain ⟨k, hk, hk2⟩ := List.getElem_of_mem hm
      by_cases hkl : k < s.length
      · have h1 := hall k (by omega)
        rw [List.getElem_append_left hkl] at hk2
        simp [List.getD, hkl, hk2] at h1
      · have : k = s.length := by simp at hk; omega
        subst this
        simp at hk2
    cases fuel with
    | zero => exact ⟨hn, h'⟩
    | succ n => exact ⟨fun _ => h', fun i hi => by rw [hn] at hi; cases hi⟩
  intro fuel
  induction fuel with
  | zero =>
    intro s a w hs hc hcl hC h
    refine ⟨fun hr => ?_, fun i hi => ?_⟩
    · have := ready_all ha (by simp [hs]) hr
      have e := congrArg (fun t => t.getD s.length true) this
      simp [List.getD, hs] at e
    · obtain ⟨hlt, hfalse⟩ := ready_open hi
      have hi2 : i = l.length := by
        by_cases hil : i < l.length
        · exfalso
          rw [getD_snoc (by omega)] at hfalse
          have hm : false ∈ s := by
            have e : s[i]'(by omega) = false := by simpa [List.getD, show i < s.length by omega] using hfalse
            rw [← e]; exact List.getElem_mem _
          have := List.count_pos_iff.2 hm
          omega
        · simp at hlt; omega
      subst hi2
      refine hlast _ s a w hs (fun j hj => ?_) hC h.2
      cases hb : s.getD j false with
      | true => rfl
      | false =>
        exfalso
        have hm : false ∈ s := by
          have e : s[j]'(by omega) = false := by simpa [List.getD, show j < s.length by omega] using hb
          rw [← e]; exact List.getElem_mem _
        have := List.count_pos_iff.2 hm
        omega
  | succ fuel ih =>
    intro s a w hs hc hcl hC h
    refine ⟨fun hr => ?_, fun i hi => ?_⟩
    · have := ready_all ha (by simp [hs]) hr
      have e := congrArg (fun t => t.getD s.length true) this
      simp [List.getD, hs] at e
    · obtain ⟨hlt, hfalse⟩ := ready_open hi
      by_cases hil : i < l.length
      · have hx : l[i]? = some l[i] := List.getElem?_eq_getElem hil
        have hox : (l ++ [o]).toArray[i]? = some l[i] := by simp [List.getElem?_append_left hil, hil]
        have hdep := ready_dep hi hox
        have hgx : (l[i]).guard = none := by
          have := List.all_eq_true.1 hg l[i] (List.getElem_mem hil)
          simpa using this
        have hdep2 : (l[i]).after.all (fun e => !Region.binds .any e || s.getD e.on false) = true := by
          rw [Array.all_eq_true] at hdep ⊢
          intro k hk
          have h1 := hdep k hk
          have h2 := List.all_eq_true.1 ha i (by simp; omega)
          rw [hox] at h2
          simp only [Option.map_some, Option.getD_some, Array.all_eq_true] at h2
          have h3 := h2 k hk
          rw [Bool.or_eq_true] at h3
          rcases h3 with h3 | h3
          · rw [h3]; rfl
          · have h4 : ((l[i]).after[k]).on < i := by simpa using h3
            rw [getD_snoc (by omega)] at h1
            exact h1
        rw [getD_snoc (by omega)] at hfalse
        have hrd : i ∈ Region.ready .any l.toArray s.toArray := by
          simp only [Region.ready, List.mem_filter, List.mem_range, Bool.and_eq_true, Bool.not_eq_true']
          refine ⟨by simpa using hil, by simpa using hfalse, ?_⟩
          have : l.toArray[i]? = some l[i] := by simp [hil]
          rw [this]
          simpa using hdep2
        have hq := h.2 i hrd
        unfold qOp at hq
        have : l.toArray[i]? = some l[i] := by simp [hil]
        rw [this] at hq
        simp only [Region.wanted, hgx, if_true] at hq
        unfold wpOp
        rw [hox]
        simp only [Region.wanted, hgx, if_true]
        refine .inl (Oper.wp_of_quiet hC (fun a' w' hC' hk => ?_) hq)
        have e1 : s.toArray.setIfInBounds i true = (s.set i true).toArray := by simp
        have e2 : (s ++ [false]).toArray.setIfInBounds i true = (s.set i true ++ [false]).toArray := by simp [List.set_append_left _ _ (show i < s.length by omega)]
        rw [e2]
        rw [e1] at hk
        refine ih _ a' w' (by simp [hs]) (by have := count_listed (l := s) (i := i) (by omega) hfalse; omega) ?_ hC' hk
        intro k x hkx hk1 j hj
        have hset : ∀ j, s.getD j false = true → (s.set i true).getD j false = true := by
          intro j hj
          by_cases hji : j = i
          · subst hji; simp [List.getD, show j < s.length by omega]
          · simp only [List.getD] at hj ⊢
            rw [List.getElem?_set_ne (fun e => hji e.symm)]; exact hj
        by_cases hki : k = i
        · subst hki
          have : x = l[k] := Option.some.inj (hkx.symm.trans hx)
          subst this
          exact hset j (dep_done hdep2 j hj)
        · refine hset j (hcl k x hkx ?_ j hj)
          simp only [List.getD] at hk1 ⊢
          rwa [List.getElem?_set_ne (fun e => hki e.symm)] at hk1
      · have hi2 : i = l.length := by simp at hlt; omega
        subst hi2
        have hox : (l ++ [o]).toArray[l.length]? = some o := by simp
        have hdep := ready_dep hi hox
        have hall : ∀ j, j < l.length → s.getD j false = true := fun j hj => all_done hf hcl (fun j hj hw => by
          have := dep_done hdep j hw
          rwa [getD_snoc (by omega)] at this) (l.length - j) j (Nat.le_refl _) hj
        have hn : Region.ready .any l.toArray s.toArray = [] := by
          refine ready_none (by simp [hs]) ?_
          rw [List.count_eq_zero]
          intro hm
          obtain ⟨k, hk, hk2⟩ := List.getElem_of_mem hm
          have h1 := hall k (by omega)
          simp [List.getD, hk, hk2] at h1
        exact hlast _ s a w hs hall hC (h.1 hn)

/-- One walk of the text's order serves: all operations but the last one only read. -/
theorem region_ends {id : Nat} {a : Act} {w : World} (hm : P.follows .mixedOrders = true) (hB : Region.lexB .any l.toArray = true) (hg : l.all (fun x => x.guard.isNone) = true) (hgo : o.guard = none) (ha : ahead (l ++ [o]).toArray = true) (hf : lastFull l o = true)
    (h : wpQuiet P l.toArray (fun w' => ∃ n, w' = w.drewN n) (fun a' => ∀ w', (∃ n, w' = w.drewN n) → wpList P (l ++ [o]).toArray Q [o] a' w') l a) : (Code.region id (l ++ [o]).toArray true).wp P Q a w := by
  simp only [Region.lexB, Bool.and_eq_true] at hB
  refine wp_region_any hm ?_
  have hq := wpAnyQ_lex (C := fun w' => ∃ n, w' = w.drewN n) (md := .any) hB.1 l 0 (Array.replicate l.length false) a (by simp) (by simpa using hB.2) h
  have e : Array.replicate (l ++ [o]).toArray.size false = (List.replicate l.length false ++ [false]).toArray := by
    rw [← List.replicate_succ']; simp
  rw [e]
  have e2 : (l ++ [o]).toArray.size = l.length + 1 := by simp
  rw [e2]
  refine last_inv (C := fun w' => ∃ n, w' = w.drewN n) (Qq := fun a' => ∀ w', (∃ n, w' = w.drewN n) → wpList P (l ++ [o]).toArray Q [o] a' w') hg hgo ha hf (fun a w hC h => h w hC) l.length (List.replicate l.length false) a _ (by simp) (by simp) ?_ ⟨1, rfl⟩ (by simpa using hq)
  intro i x _ h1
  simp only [List.getD, List.getElem?_replicate] at h1
  split at h1 <;> cases h1
theorem wpQuiet_mono {ops : Array Oper} {C : World → Prop} {q q' : Act → Prop} (h : ∀ a, q a → q' a) : ∀ (l : List Oper) (a : Act), wpQuiet P ops C q l a → wpQuiet P ops C q' l a
  | [], a, hh => h a hh
  | x :: l, a, hh => by
    unfold wpQuiet at hh ⊢
    split
    · rename_i hw
      simp only [hw, if_true] at hh
      exact Oper.quiet_mono (fun a' => wpQuiet_mono h l a') hh
    · rename_i hw
      simp only [hw] at hh
      exact wpQuiet_mono h l _ hh
/-- The same, the last operation by itself. -/
theorem region_last {id : Nat} {a : Act} {w : World} (hm : P.follows .mixedOrders = true) (hB : Region.lexB .any l.toArray = true) (hg : l.all (fun x => x.guard.isNone) = true) (hgo : o.guard = none) (ha : ahead (l ++ [o]).toArray = true) (hf : lastFull l o = true)
    (h : wpQuiet P l.toArray (fun w' => ∃ n, w' = w.drewN n) (fun a' => ∀ w', (∃ n, w' = w.drewN n) → o.wp P a' w' (fun a w => Q .normal a w) Q) l a) : (Code.region id (l ++ [o]).toArray true).wp P Q a w := by
  refine region_ends hm hB hg hgo ha hf (wpQuiet_mono (fun a' h w' hw => ?_) l a h)
  unfold wpList
  simp only [Region.wanted, hgo, if_true]
  exact .inl (h w' hw)
end
end Go.Proofs.Ythmjdebnjcopnaa
/- A region that draws its order: operations that only read, each with its value, and a few that turn memory, told by what holds behind each of them. -/
namespace Go.Proofs.Ythmjdebnjcopnaa
open Go.RowKit

section
variable {P : Program} {ops : Array Oper} {Q : Exit → Act → World → Prop}

def slotAt (ops : Array Oper) (j : Nat) : Option Tmp := (ops[j]?).bind (·.dst)
/-- No two operations have one slot. -/
def okSlots (ops : Array Oper) (sz : Nat) : Bool :=
  (List.range ops.size).all fun i => match slotAt ops i with
    | some d => decide (d < sz) && (List.range ops.size).all fun j => j == i || !(slotAt ops j == some d)
    | none => true
def hasSlot (ops : Array Oper) (d : Nat) : Bool := (List.range ops.size).any fun j => slotAt ops j == some d
theorem slotAt_lt {j : Nat} {d : Tmp} (h : slotAt ops j = some d) : j < ops.size := by
  unfold slotAt at h
  cases ho : ops[j]? with
  | none => rw [ho] at h; cases h
  | some o => exact (Array.getElem?_eq_some_iff.1 ho).1
theorem okSlots_at {sz i : Nat} {d : Tmp} (h : okSlots ops sz = true) (hd : slotAt ops i = some d) : d < sz ∧ ∀ j, j ≠ i → slotAt ops j ≠ some d := by
  have h1 := List.all_eq_true.1 h i (by simpa using slotAt_lt hd)
  rw [hd] at h1
  simp only [Bool.and_eq_true, decide_eq_true_eq] at h1
  refine ⟨h1.1, fun j hj e => ?_⟩
  have h2 := List.all_eq_true.1 h1.2 j (by simpa using slotAt_lt e)
  simp [hj, e] at h2
theorem hasSlot_of {j : Nat} {d : Tmp} (h : slotAt ops j = some d) : hasSlot ops d = true :=
  List.any_eq_true.2 ⟨j, by simpa using slotAt_lt h, by simp [h]⟩
def upd {α : Type} (f : Nat → α) (i : Nat) (v : α) : Nat → α := fun j => if j = i then v else f j
theorem upd_same {α : Type} (f : Nat → α) (i : Nat) (v : α) : upd f i v i = v := by simp [upd]
theorem upd_other {α : Type} (f : Nat → α) {i j : Nat} (v : α) (h : j ≠ i) : upd f i v j = f j := by simp [upd, h]

/-- What an operation sees when its turn comes: the values of those it waits for, and the other slots as they were. -/
structure Sees (ops : Array Oper) (tab : Nat → Option Value) (f : Nat → Value) (a0 a : Act) (o : Oper) : Prop where
  dep : ∀ j d, waitsFor o j = true → slotAt ops j = some d → a.eval (.tmp d) = f j
  tab : ∀ j d u, waitsFor o j = true → slotAt ops j = some d → tab j = some u → a.eval (.tmp d) = u
  old : ∀ d, hasSlot ops d = false → a.eval (.tmp d) = a0.eval (.tmp d)

theorem eval_at {a : Act} {d : Tmp} {v : Value} (h : a.tmps[d]? = some v) : a.eval (.tmp d) = v := by
  unfold Act.eval
  simp [Array.getD_eq_getD_getElem?, h]

/-- The frame behind all operations. -/
def putAll (ops : Array Oper) (f : Nat → Value) : List Nat → Act → Act
  | [], a => a
  | i :: l, a => putAll ops f l (a.put (slotAt ops i) (f i))
theorem putAll_defers (f : Nat → Value) : ∀ (l : List Nat) (a : Act), (putAll ops f l a).defers = a.defers
  | [], a => rfl
  | i :: l, a => by
    show (putAll ops f l (a.put (slotAt ops i) (f i))).defers = _
    rw [putAll_defers f l]
    cases slotAt ops i <;> rfl
theorem put_get (a : Act) (s : Option Tmp) (v : Value) (d : Tmp) : (a.put s v).tmps[d]? = if s = some d ∧ d < a.tmps.size then some v else a.tmps[d]? := by
  cases s with
  | none => simp [Act.put]
  | some t =>
    show (a.tmps.setIfInBounds t v)[d]? = _
    by_cases h : t = d
    · subst h
      by_cases hs : t < a.tmps.size
      · simp [hs]
      · simp [hs]
    · rw [Array.getElem?_setIfInBounds_ne h]
      simp [h]
theorem put_size (a : Act) (s : Option Tmp) (v : Value) : (a.put s v).tmps.size = a.tmps.size := by
  cases s <;> simp [Act.put]
theorem putAll_size (f : Nat → Value) : ∀ (l : List Nat) (a : Act), (putAll ops f l a).tmps.size = a.tmps.size
  | [], a => rfl
  | i :: l, a => by
    show (putAll ops f l (a.put (slotAt ops i) (f i))).tmps.size = _
    rw [putAll_size f l, put_size]
theorem putAll_get (f : Nat → Value) (hs : ∀ i j d, slotAt ops i = some d → slotAt ops j = some d → i = j) : ∀ (l : List Nat) (a : Act) (d : Tmp), d < a.tmps.size → (putAll ops f l a).tmps[d]? = match l.find? (fun j => slotAt ops j == some d) with | some j => some (f j) | none => a.tmps[d]?
  | [], a, d, _ => rfl
  | i :: l, a, d, hd => by
    show (putAll ops f l (a.put (slotAt ops i) (f i))).tmps[d]? = _
    rw [putAll_get f hs l _ d (by rw [put_size]; exact hd)]
    by_cases hi : slotAt ops i = some d
    · have e : (i :: l).find? (fun j => slotAt ops j == some d) = some i := by simp [List.find?, hi]
      rw [e]
      cases h : l.find? (fun j => slotAt ops j == some d) with
      | none => simp [put_get, hi, hd]
      | some j =>
        have hj := List.find?_some h
        have : slotAt ops j = some d := by simpa using hj
        rw [hs i j d hi this]
    · have e : (i :: l).find? (fun j => slotAt ops j == some d) = l.find? (fun j => slotAt ops j == some d) := by
        have hb : (slotAt ops i == some d) = false := by simpa using hi
        simp [List.find?, hb]
      rw [e]
      cases h : l.find? (fun j => slotAt ops j == some d) with
      | none => simp [put_get, hi]
      | some j => rfl

/-- What is done waited for nothing that isn't. -/
def Shut (ops : Array Oper) (d : Nat → Bool) : Prop := ∀ i o j, ops[i]? = some o → waitsFor o j = true → d i = true → d j = true
structure StageI (ops : Array Oper) (tab : Nat → Option Value) (C : (Nat → Bool) → (Nat → Value) → World → Prop) (a0 : Act) (f : Nat → Value) (l : List Bool) (a : Act) (w : World) : Prop where
  world : C (fun i => l.getD i false) f w
  shut : Shut ops (fun i => l.getD i false)
  defers : a.defers = a0.defers
  size : a.tmps.size = a0.tmps.size
  done : ∀ j d, slotAt ops j = some d → l.getD j false = true → a.tmps[d]? = some (f j)
  told : ∀ j u, tab j = some u → l.getD j false = true → f j = u
  old : ∀ d, hasSlot ops d = false → a.tmps[d]? = a0.tmps[d]?

theorem region_stage {id : Nat} {a0 : Act} {w0 : World} (hm : P.follows .mixedOrders = true) (hg : ops.all (fun o => o.guard.isNone) = true) (ha : ahead ops = true) (hs : okSlots ops a0.tmps.size = true)
    (tab : Nat → Option Value) (C : (Nat → Bool) → (Nat → Value) → World → Prop)
    (h0 : ∀ f, C (fun _ => false) f w0.drew)
    (keep : ∀ i v d f w, tab i = some v → C d f w → C (upd d i true) (upd f i v) w)
    (quiet : ∀ i o v d f a w, ops[i]? = some o → tab i = some v → d i = false → Shut ops d → C d f w → Sees ops tab f a0 a o → o.wp P a w (fun a' w' => a' = a.put o.dst v ∧ C d f w') Q)
    (turn : ∀ i o d f a w, ops[i]? = some o → tab i = none → d i = false → Shut ops d → (∀ j, waitsFor o j = true → d j = true) → C d f w → Sees ops tab f a0 a o → o.wp P a w (fun a' w' => ∃ v, a' = a.put o.dst v ∧ C (upd d i true) (upd f i v) w') Q)
    (fin : ∀ f w, C (fun i => decide (i < ops.size)) f w → (∀ j u, j < ops.size → tab j = some u → f j = u) → Q .normal (putAll ops f (List.range ops.size) a0) w) :
    (Code.region id ops true).wp P Q a0 w0 := by
  have huniq : ∀ i j d, slotAt ops i = some d → slotAt ops j = some d → i = j := by
    intro i j d hi hj
    by_cases e : i = j
    · exact e
    · exact absurd hj ((okSlots_at hs hi).2 j (fun h => e h.symm))
  refine region_inv hm hg ha (fun l a w => ∃ f, l.length = ops.size ∧ StageI ops tab C a0 f l a w) ?_ ?_ ?_
  · refine ⟨fun _ => undef, by simp, ?_, fun i o j _ _ h => ?_, rfl, rfl, fun j d _ h => ?_, fun j u _ h => ?_, fun _ _ => rfl⟩
    · have e : (fun i => (List.replicate ops.size false).getD i false) = fun _ => false := by
        funext i
        simp only [List.getD, List.getElem?_replicate]
        split <;> rfl
      rw [e]; exact h0 _
    · exfalso
      simp only [List.getD, List.getElem?_replicate] at h
      split at h <;> cases h
    · exfalso
      simp only [List.getD, List.getElem?_replicate] at h
      split at h <;> cases h
    · exfalso
      simp only [List.getD, List.getElem?_replicate] at h
      split at h <;> cases h
  · rintro l a w i o ⟨f, hl, hj⟩ hf hd hi ho
    have hsee : Sees ops tab f a0 a o := ⟨fun j d hw hsl => eval_at (hj.done j d hsl (dep_done hd j hw)), fun j d u hw hsl ht => by rw [← hj.told j u ht (dep_done hd j hw)]; exact eval_at (hj.done j d hsl (dep_done hd j hw)), fun d hn => by
      unfold Act.eval
      simp [Array.getD_eq_getD_getElem?, hj.old d hn]⟩
    have hil : i < l.length := by omega
    have hfd : l.getD i false = false := by
      simp only [List.getD, List.getElem?_eq_getElem hil] at hf ⊢
      simpa using hf
    have hod : slotAt ops i = o.dst := by unfold slotAt; rw [ho]; rfl
    have hup : (fun k => (l.set i true).getD k false) = upd (fun k => l.getD k false) i true := by
      funext k
      unfold upd
      by_cases hk : k = i
      · subst hk; simp [List.getD, hil]
      · rw [if_neg hk]; simp only [List.getD]; rw [List.getElem?_set_ne (fun e => hk e.symm)]
    have build : ∀ v w', C (upd (fun k => l.getD k false) i true) (upd f i v) w' → (∀ u, tab i = some u → v = u) → ∃ f', (l.set i true).length = ops.size ∧ StageI ops tab C a0 f' (l.set i true) (a.put o.dst v) w' := by
      intro v w' hC hv
      refine ⟨upd f i v, by simpa using hl, by rw [hup]; exact hC, ?_, ?_, by rw [put_size]; exact hj.size, ?_, ?_, ?_⟩
      · rw [hup]
        intro k x j hk hwt hdn
        by_cases hji : j = i
        · rw [hji]; exact upd_same _ _ _
        · rw [upd_other _ _ hji]
          by_cases hki : k = i
          · subst hki
            obtain rfl := Option.some.inj (ho.symm.trans hk)
            exact dep_done hd j hwt
          · rw [upd_other _ _ hki] at hdn
            exact hj.shut k x j hk hwt hdn
      · rw [← hj.defers]; cases o.dst <;> rfl
      · intro j d hsl hdn
        rw [put_get]
        by_cases hji : j = i
        · subst hji
          have hdd : o.dst = some d := by rw [← hod]; exact hsl
          rw [if_pos ⟨hdd, by rw [hj.size]; exact (okSlots_at hs hsl).1⟩, upd_same]
        · have hne : ¬ (o.dst = some d ∧ d < a.tmps.size) := fun h => hji (huniq j i d hsl (by rw [hod]; exact h.1))
          rw [if_neg hne, upd_other f v hji]
          refine hj.done j d hsl ?_
          simp only [List.getD] at hdn ⊢
          rwa [List.getElem?_set_ne (fun e => hji e.symm)] at hdn
      · intro j u ht hdn
        by_cases hji : j = i
        · subst hji; rw [upd_same]; exact hv u ht
        · rw [upd_other f v hji]
          refine hj.told j u ht ?_
          simp only [List.getD] at hdn ⊢
          rwa [List.getElem?_set_ne (fun e => hji e.symm)] at hdn
      · intro d hn
        rw [put_get]
        have hne : ¬ (o.dst = some d ∧ d < a.tmps.size) := fun h => by
          have h2 := hasSlot_of (ops := ops) (j := i) (d := d) (by rw [hod]; exact h.1)
          rw [hn] at h2; cases h2
        rw [if_neg hne]
        exact hj.old d hn
    cases ht : tab i with
    | some v =>
      refine Oper.wp_mono ?_ (quiet i o v _ f a w ho ht hfd hj.shut hj.world hsee)
      rintro a' w' ⟨rfl, hCw⟩
      exact build v w' (keep i v _ f w' ht hCw) (fun u hu => by rw [ht] at hu; exact Option.some.inj hu)
    | none =>
      refine Oper.wp_mono ?_ (turn i o _ f a w ho ht hfd hj.shut (fun j hw => dep_done hd j hw) hj.world hsee)
      rintro a' w' ⟨v, rfl, hC⟩
      exact build v w' hC (fun u hu => by rw [ht] at hu; cases hu)
  · rintro a w ⟨f, hl, hj⟩
    have hall : ∀ j, j < ops.size → (List.replicate ops.size true).getD j false = true := fun j h => by simp [List.getD, h]
    have e : (fun i => (List.replicate ops.size true).getD i false) = fun i => decide (i < ops.size) := by
      funext i
      by_cases h : i < ops.size
      · simp [List.getD, h]
      · simp [List.getD, h]
    have hC := hj.world
    rw [e] at hC
    have h := fin f w hC (fun j u h1 h2 => hj.told j u h2 (hall j h1))
    have ea : putAll ops f (List.range ops.size) a0 = a := by
      have e1 : (putAll ops f (List.range ops.size) a0).tmps = a.tmps := by
        apply Array.ext_getElem?
        intro d
        by_cases hd : d < a0.tmps.size
        · rw [putAll_get f huniq _ _ d hd]
          cases hfd : (List.range ops.size).find? (fun j => slotAt ops j == some d) with
          | some j =>
            have h1 : slotAt ops j = some d := by simpa using List.find?_some hfd
            exact (hj.done j d h1 (hall j (slotAt_lt h1))).symm
          | none =>
            refine (hj.old d ?_).symm
            cases hh : hasSlot ops d with
            | false => rfl
            | true =>
              obtain ⟨j, h1, h2⟩ := List.any_eq_true.1 hh
              have := List.find?_eq_none.1 hfd j h1
              exact absurd h2 this
        · rw [Array.getElem?_eq_none (by rw [putAll_size]; omega), Array.getElem?_eq_none (by rw [hj.size]; omega)]
      have e2 : (putAll ops f (List.range ops.size) a0).defers = a.defers := by rw [putAll_defers, hj.defers]
      cases hp : putAll ops f (List.range ops.size) a0
      rw [hp] at e1 e2
      cases a
      simp only at e1 e2
      rw [e1, e2]
    rw [← ea]
    exact h

/-- A call of a function whose contract leaves the class. -/
theorem quiet_call {C : World → Prop} {ρ : Operand → Value} {o : Oper} {w : World} {v : Value} (f : FuncId) (A : List Operand) (T : Array TypeId) (args : Array Value) (ho : o.op = .call { callee := .value (.func f), args := A.toArray, argTypes := T }) (hρ : ρ (.func f) = .func (.func f) #[] #[]) (hA : (A.map ρ).toArray = args) (hf : (callFunc f args).run P w = .ok (.enter f args) w)
    (h : Calls P f args w fun e w'' => e = .returned v ∧ C w'') : Oper.quietUpon P C w v ((execOp ρ o).run P w) := by
  have e : (execOp ρ o).run P w = .ok (.enter f args) w := by
    subst hA
    simp [execOp, ho, go_sem, hρ, hf]
  rw [e]
  exact ⟨rfl, h⟩
/-- A row of one made, as one operation. -/
theorem op_row1 {w w' : World} {o : Oper} {a : Act} {K : Act → World → Prop} (t : TypeId) (x : Operand) (u v : Value) (ho : o.op = .buildSlice t 1 #[(0, x)]) (hx : a.eval x = u) (hr : (Instr.buildSlice t 1 #[(0, u)]).run P w = .ok v w') (h : K (a.put o.dst v) w') : o.wp P a w K Q := by
  refine op_value (w' := w') v ?_ h
  unfold execOp
  simp only [ho, List.map_toArray, List.map_cons, List.map_nil, hx, Sem.run_bind, hr, Result.andThen_ok, Sem.run_pure]
/-- The frame behind all operations, by their slots. -/
def putL : List (Option Tmp) → (Nat → Value) → Nat → Act → Act
  | [], _, _, a => a
  | t :: l, f, i, a => putL l f (i + 1) (a.put t (f i))
theorem putAll_putL (f : Nat → Value) : ∀ (n k : Nat) (a : Act), putAll ops f (List.range' k n) a = putL ((List.range' k n).map (slotAt ops)) f k a
  | 0, k, a => rfl
  | n + 1, k, a => by
    rw [List.range'_succ, List.map_cons]
    exact putAll_putL f n (k + 1) (a.put (slotAt ops k) (f k))
/-- Each operation that has a value looks at slots of such ones that it waits for, or at slots of none. -/
def readsOk (ops : Array Oper) (vals : List (Option Value)) : Bool :=
  (List.range ops.size).all fun i => !(vals.getD i none).isSome || ((ops[i]?).map fun o => o.op.operands.all fun x => match x with
    | .tmp d => !hasSlot ops d || (List.range ops.size).any fun j => waitsFor o j && (slotAt ops j == some d) && (vals.getD j none).isSome
    | _ => true).getD true

/-- The same, those that only read by one frame that has all their values. -/
theorem region_frame {id : Nat} {a0 : Act} {w0 : World} (slots : List (Option Tmp)) (hslots : (List.range' 0 ops.size).map (slotAt ops) = slots) (vals : List (Option Value)) (C : (Nat → Bool) → (Nat → Value) → World → Prop)
    (hm : P.follows .mixedOrders = true) (hg : ops.all (fun o => o.guard.isNone) = true) (ha : ahead ops = true) (hs : okSlots ops a0.tmps.size = true) (hr : readsOk ops vals = true) (hsel : Region.noSelect ops = true)
    (h0 : ∀ f, C (fun _ => false) f w0.drew)
    (keep : ∀ i v d f w, vals.getD i none = some v → C d f w → C (upd d i true) (upd f i v) w)
    (quiet : ∀ ρ : Operand → Value, (∀ c, ρ (.const c) = c) ∧ (∀ h, ρ (.func h) = .func (.func h) #[] #[]) → (∀ j d u, slotAt ops j = some d → vals.getD j none = some u → ρ (.tmp d) = u) → (∀ d, hasSlot ops d = false → ρ (.tmp d) = a0.eval (.tmp d)) →
      ∀ i o v d f w, ops[i]? = some o → vals.getD i none = some v → d i = false → Shut ops d → C d f w → Oper.quietUpon P (C d f) w v ((execOp ρ o).run P w))
    (turn : ∀ i o d f a w, ops[i]? = some o → vals.getD i none = none → d i = false → Shut ops d → (∀ j, waitsFor o j = true → d j = true) → C d f w → Sees ops (fun i => vals.getD i none) f a0 a o → o.wp P a w (fun a' w' => ∃ v, a' = a.put o.dst v ∧ C (upd d i true) (upd f i v) w') Q)
    (fin : ∀ f w, C (fun i => decide (i < ops.size)) f w → (∀ j u, j < ops.size → vals.getD j none = some u → f j = u) → Q .normal (putL slots f 0 a0) w) :
    (Code.region id ops true).wp P Q a0 w0 := by
  have huniq : ∀ i j d, slotAt ops i = some d → slotAt ops j = some d → i = j := by
    intro i j d hi hj
    by_cases e : i = j
    · exact e
    · exact absurd hj ((okSlots_at hs hi).2 j (fun h => e h.symm))
  obtain ⟨az, haz⟩ : ∃ az, az = putAll ops (fun i => (vals.getD i none).getD undef) (List.range ops.size) a0 := ⟨_, rfl⟩
  have z1 : ∀ j d u, slotAt ops j = some d → vals.getD j none = some u → az.eval (.tmp d) = u := by
    intro j d u hsl hv
    refine eval_at ?_
    rw [haz, putAll_get _ huniq _ _ d (okSlots_at hs hsl).1]
    cases h : (List.range ops.size).find? (fun j => slotAt ops j == some d) with
    | none =>
      have := List.find?_eq_none.1 h j (by simpa using slotAt_lt hsl)
      exact absurd (by simp [hsl]) this
    | some k =>
      have h1 : slotAt ops k = some d := by simpa using List.find?_some h
      obtain rfl := huniq k j d h1 hsl
      show some ((vals.getD k none).getD undef) = some u
      rw [hv]; rfl
  have z2 : ∀ d, hasSlot ops d = false → az.eval (.tmp d) = a0.eval (.tmp d) := by
    intro d hn
    have e : az.tmps[d]? = a0.tmps[d]? := by
      by_cases hd : d < a0.tmps.size
      · rw [haz, putAll_get _ huniq _ _ d hd]
        cases h : (List.range ops.size).find? (fun j => slotAt ops j == some d) with
        | none => rfl
        | some k =>
          have h1 : slotAt ops k = some d := by simpa using List.find?_some h
          rw [hasSlot_of h1] at hn; cases hn
      · rw [Array.getElem?_eq_none (by rw [haz, putAll_size]; omega), Array.getElem?_eq_none (by omega)]
    unfold Act.eval
    simp [Array.getD_eq_getD_getElem?, e]
  refine region_stage hm hg ha hs (fun i => vals.getD i none) C h0 keep ?_ turn (fun f w h1 h2 => by
    rw [List.range_eq_range', putAll_putL, hslots]
    exact fin f w h1 h2)
  intro i o v d f a w ho ht hd hsh hC hsee
  have hcong : execOp a.eval o = execOp az.eval o := by
    refine execOp_congr o (fun cs b => Region.noSelect_spec hsel i o cs b ho) (fun x hx => ?_)
    have h1 := List.all_eq_true.1 hr i (by simpa using (Array.getElem?_eq_some_iff.1 ho).1)
    rw [ht, ho] at h1
    simp only [Option.isSome_some, Bool.not_true, Bool.false_or, Option.map_some, Option.getD_some, Array.all_eq_true'] at h1
    have h2 := h1 x hx
    cases x with
    | tmp t =>
      simp only [Bool.or_eq_true, Bool.not_eq_true'] at h2
      rcases h2 with h2 | h2
      · rw [z2 t h2]; exact hsee.old t h2
      · obtain ⟨j, _, hj⟩ := List.any_eq_true.1 h2
        simp only [Bool.and_eq_true, beq_iff_eq] at hj
        obtain ⟨⟨hj1, hj2⟩, hj3⟩ := hj
        obtain ⟨u, hu⟩ := Option.isSome_iff_exists.1 hj3
        rw [z1 j t u hj2 hu]
        exact hsee.tab j t u hj1 hj2 hu
    | const c => rfl
    | global g => rfl
    | func g => rfl
  refine Oper.wp_of_quiet (C := C d f) (K := fun a' => a' = a.put o.dst v) hC (fun a' w' hw hk => ⟨hk, hw⟩) ⟨v, fun w hw => ?_, rfl⟩
  have h := quiet az.eval ⟨fun c => rfl, fun h => rfl⟩ z1 z2 i o v d f w ho ht hd hsh hw
  unfold Oper.quietAt
  rw [hcong]
  exact h
end
end Go.Proofs.Ythmjdebnjcopnaa
/- A region that draws its order, all of whose operations but the last one yield the same values in every world of a class (they read, or call what only makes new memory), the last one waiting for all others. -/
namespace Go.Proofs.Ythmjdebnjcopnaa
open Go.RowKit
variable {P : Program} {l : List Oper} {o : Oper} {Q : Exit → Act → World → Prop}
theorem region_class {id : Nat} {a : Act} {w : World} (C : World → Prop) (hm : P.follows .mixedOrders = true) (hB : Region.lexB .any l.toArray = true) (hg : l.all (fun x => x.guard.isNone) = true) (hgo : o.guard = none) (ha : ahead (l ++ [o]).toArray = true) (hf : lastFull l o = true)
    (h0 : C w.drew) (h : wpQuiet P l.toArray C (fun a' => ∀ w', C w' → wpList P (l ++ [o]).toArray Q [o] a' w') l a) : (Code.region id (l ++ [o]).toArray true).wp P Q a w := by
  simp only [Region.lexB, Bool.and_eq_true] at hB
  refine wp_region_any hm ?_
  have hq := wpAnyQ_lex (C := C) (md := .any) hB.1 l 0 (Array.replicate l.length false) a (by simp) (by simpa using hB.2) h
  have e : Array.replicate (l ++ [o]).toArray.size false = (List.replicate l.length false ++ [false]).toArray := by
    rw [← List.replicate_succ']; simp
  rw [e]
  have e2 : (l ++ [o]).toArray.size = l.length + 1 := by simp
  rw [e2]
  refine last_inv (C := C) (Qq := fun a' => ∀ w', C w' → wpList P (l ++ [o]).toArray Q [o] a' w') hg hgo ha hf (fun a w hC h => h w hC) l.length (List.replicate l.length false) a _ (by simp) (by simp) ?_ h0 (by simpa using hq)
  intro i x _ h1
  simp only [List.getD, List.getElem?_replicate] at h1
  split at h1 <;> cases h1
variable {ops : Array Oper} {C : World → Prop} {rest : List Oper} {a : Act} {Qa : Act → Prop}
/-- An operation that yields v in every world of the class. -/
theorem class_val (v : Value) (hg : o.guard = none) (h : ∀ w, C w → (execOp a.eval o).run P w = .ok (.value v) w) (h2 : ∀ K : Act → Prop, (∀ a, wpQuiet P ops C Qa rest a → K a) → K (a.put o.dst v)) : wpQuiet P ops C Qa (o :: rest) a := by
  unfold wpQuiet
  have e : Region.wanted o (yielded ops a.tmps) = true := by unfold Region.wanted; rw [hg]
  rw [if_pos e]
  refine ⟨v, fun w hw => ?_, h2 _ (fun _ h => h)⟩
  unfold Oper.quietAt
  rw [h w hw]
  exact ⟨rfl, rfl⟩
/-- A call that yields v in every world of the class, and leaves one. -/
theorem class_call (v : Value) (f : FuncId) (args : Array Value) (hg : o.guard = none) (h : ∀ w, C w → (execOp a.eval o).run P w = .ok (.enter f args) w) (hc : ∀ w, C w → Calls P f args w fun e w' => e = .returned v ∧ C w') (h2 : ∀ K : Act → Prop, (∀ a, wpQuiet P ops C Qa rest a → K a) → K (a.put o.dst v)) : wpQuiet P ops C Qa (o :: rest) a := by
  unfold wpQuiet
  have e : Region.wanted o (yielded ops a.tmps) = true := by unfold Region.wanted; rw [hg]
  rw [if_pos e]
  refine ⟨v, fun w hw => ?_, h2 _ (fun _ h => h)⟩
  unfold Oper.quietAt
  rw [h w hw]
  exact ⟨rfl, hc w hw⟩
end Go.Proofs.Ythmjdebnjcopnaa
