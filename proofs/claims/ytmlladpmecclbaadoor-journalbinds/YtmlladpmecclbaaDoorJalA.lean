/- Bytes, Blocks, MapMem, Draws, Lasts, Stages, Chain, RefBytes, Cuts, BytesLeaf, OwnOps, PsRow, IntMaps, Ranges, IntKit, JoinRow, JnConcat, GhJoin, EqItems, Classes. -/
import Derived.Test.YtmlladpmecclbaaDoorRows
import Derived.WalkKit
import Derived.ProofKit
import Derived.ChangeArms
import Derived.SizedLaws
import Derived.Deep.Slices
import Derived.WalkLawsBesides
import Derived.Below
import Derived.OneCell
import Derived.OwnWalk
import Derived.Laws.BitsAllLaws
import Derived.Laws.CopyOwn
import Derived.Maps.Keyed
import Derived.MapViews
import Derived.Orders
import Derived.RegionTactic
import Derived.Deep.QuietTactic
import Derived.BigQuiet
import Derived.Laws.CopyRow
import Derived.Laws.Cover3
import Derived.Laws.Pointers
import Derived.Laws.IdiomStrings
import Derived.Great.BuildSlice
import Derived.Great.FillDense
import Derived.Maps.AppendAt
import Derived.Maps.Range
import Derived.Maps.RangeRun
import Derived.Shelf.Spec.SlicesGrow
import Derived.Deep.Cut
import Derived.Shelf.Bytes.SlJoin
import Derived.ChangeKeysEq
/- What a walk is told of bytes: a slice that holds them (whoever's it is), a slice that is the call's own, and what stays where only some blocks turn. -/
namespace Go.Proofs.YtmlladpmecclbaaDoor
open Go.ChangeShapes Go.WideShapes Go.ChangeAt Go.RowKit Go.Deep

/-- Bytes as values. -/
abbrev u8s (zs : List Nat) : List Value := zs.map fun (z : Nat) => Value.int .u8 (z : Int)

/-- Of what was there only the blocks of R turn. -/
structure But (R : Nat → Prop) (w w' : World) : Prop where
  os : w'.os = w.os
  tape : w'.tape = w.tape
  output : w'.output = w.output
  size : w.heap.size ≤ w'.heap.size
  block : ∀ k, k < w.heap.size → ¬ R k → w'.heap[k]? = w.heap[k]?

theorem But.refl (R : Nat → Prop) (w : World) : But R w w := ⟨rfl, rfl, rfl, Nat.le_refl _, fun _ _ _ => rfl⟩
theorem But.trans {R : Nat → Prop} {a b c : World} (h : But R a b) (k : But R b c) : But R a c :=
  ⟨k.os.trans h.os, k.tape.trans h.tape, k.output.trans h.output, Nat.le_trans h.size k.size, fun i hi hr => (k.block i (Nat.lt_of_lt_of_le hi h.size) hr).trans (h.block i hi hr)⟩
theorem But.mono {R S : Nat → Prop} {a b : World} (h : But R a b) (hs : ∀ k, k < a.heap.size → R k → S k) : But S a b :=
  ⟨h.os, h.tape, h.output, h.size, fun i hi hn => h.block i hi (fun hr => hn (hs i hi hr))⟩
/-- The later part may turn what is new to the first world. -/
theorem But.then {R S : Nat → Prop} {a b c : World} (h : But R a b) (k : But S b c) (hs : ∀ i, i < a.heap.size → S i → R i) : But R a c :=
  ⟨k.os.trans h.os, k.tape.trans h.tape, k.output.trans h.output, Nat.le_trans h.size k.size, fun i hi hr => (k.block i (Nat.lt_of_lt_of_le hi h.size) (fun h' => hr (hs i hi h'))).trans (h.block i hi hr)⟩
theorem But.alloc {R : Nat → Prop} {a w : World} (h : But R a w) (o : Obj) : But R a (w.alloc o) :=
  ⟨h.os, h.tape, h.output, by simp; exact Nat.le_succ_of_le h.size, fun k hk hr => (Below.heap_alloc w o k (Nat.lt_of_lt_of_le hk h.size)).trans (h.block k hk hr)⟩
theorem But.drew {R : Nat → Prop} {a w : World} (h : But R a w) : But R a w.drew := ⟨h.os, h.tape, h.output, h.size, h.block⟩
theorem But.setCell {R : Nat → Prop} {a w : World} (h : But R a w) {p : Addr} (hp : p.block < a.heap.size → R p.block) (u : Value) : But R a (w.setCell p u) :=
  ⟨h.os, h.tape, h.output, by simpa using h.size, fun k hk hr => (Below.heap_setCell w p u k (fun e => hr (by rw [e]; exact hp (by rw [← e]; exact hk)))).trans (h.block k hk hr)⟩
theorem But.grown {R : Nat → Prop} {a w w' : World} {row : Option Nat} (h : But R a w) (hg : w.grownBy w' row) (hr : ∀ k, row = some k → k < a.heap.size → R k) : But R a w' :=
  ⟨hg.os.trans h.os, hg.tape.trans h.tape, hg.output.trans h.output, Nat.le_trans h.size hg.size, fun k hk hn => (hg.block k (Nat.lt_of_lt_of_le hk h.size) (fun e => hn (hr k e.symm hk))).trans (h.block k hk hn)⟩
theorem But.below {R : Nat → Prop} {B : Nat} {w w' : World} (h : But R w w') (hB : B ≤ w.heap.size) (hr : ∀ k, k < B → ¬ R k) : Below B w w' :=
  ⟨h.os, h.tape, h.output, h.size, fun k hk => h.block k (Nat.lt_of_lt_of_le hk hB) (hr k hk)⟩
theorem But.of {R : Nat → Prop} {w w' : World} (h : Below w.heap.size w w') : But R w w' := ⟨h.os, h.tape, h.output, h.size, fun k hk _ => h.block k hk⟩

/-- The slice v holds the bytes zs. -/
def Bs (w : World) (v : Value) (zs : List Nat) : Prop :=
  (∀ z ∈ zs, z < 256) ∧ zs.length ≤ 281474976710656 ∧
  ((zs = [] ∧ (v = .slice none 0 0 ∨ ∃ a cap, v = .slice (some a) 0 cap)) ∨
   (0 < zs.length ∧ ∃ b off cap, v = .slice (some ⟨b, off, none⟩) zs.length cap ∧ zs.length ≤ cap ∧ b < w.heap.size ∧
      ∀ i, i < zs.length → w.cell? ⟨b, off + i, none⟩ = some (.int .u8 (zs.getD i 0 : Nat))))

theorem Bs.keep {w w' : World} {v : Value} {zs : List Nat} (h : Bs w v zs) (hs : w.heap.size ≤ w'.heap.size) (hk : ∀ k, v.ownBlock = some k → k < w.heap.size → w'.heap[k]? = w.heap[k]?) : Bs w' v zs := by
  obtain ⟨h1, h2, h3⟩ := h
  refine ⟨h1, h2, ?_⟩
  rcases h3 with h3 | ⟨h0, b, off, cap, rfl, hcap, hb, hc⟩
  · exact .inl h3
  · exact .inr ⟨h0, b, off, cap, rfl, hcap, by omega, fun i hi => (World.cell?_of_block (hk b rfl hb)).trans (hc i hi)⟩
theorem Bs.but {R : Nat → Prop} {w w' : World} {v : Value} {zs : List Nat} (h : Bs w v zs) (k : But R w w') (hr : ∀ j, v.ownBlock = some j → j < w.heap.size → ¬ R j) : Bs w' v zs :=
  h.keep k.size fun j e hj => k.block j hj (hr j e hj)
theorem Bs.below {w w' : World} {v : Value} {zs : List Nat} (h : Bs w v zs) (k : Below w.heap.size w w') : Bs w' v zs :=
  h.keep k.size fun j _ hj => k.block j hj
theorem Bs.nil (w : World) : Bs w (.slice none 0 0) [] := ⟨by simp, by simp, .inl ⟨rfl, .inl rfl⟩⟩

/-- The slice v holds the bytes zs, and is the call's own (of base or behind it). -/
structure Ow (w : World) (base : Nat) (v : Value) (zs : List Nat) : Prop where
  lt : ∀ z ∈ zs, z < 256
  len : zs.length ≤ 281474976710656
  own : w.ownsRow base 5 1 v zs.length (u8s zs)

theorem Ow.ge {w : World} {base : Nat} {v : Value} {zs : List Nat} (h : Ow w base v zs) : ∀ k, v.ownBlock = some k → base ≤ k ∧ k < w.heap.size := h.own.lt
theorem Ow.mono {w : World} {base base' : Nat} {v : Value} {zs : List Nat} (h : Ow w base v zs) (hb : base' ≤ base) : Ow w base' v zs := by
  obtain ⟨h1, h2, h3, h4⟩ := h
  refine ⟨h1, h2, h3, ?_⟩
  rcases h4 with h4 | ⟨g, cap, cur, e, hg, r⟩
  · exact .inl h4
  · exact .inr ⟨g, cap, cur, e, by omega, r⟩
theorem Ow.but {R : Nat → Prop} {w w' : World} {base : Nat} {v : Value} {zs : List Nat} (h : Ow w base v zs) (k : But R w w') (hr : ∀ j, v.ownBlock = some j → j < w.heap.size → ¬ R j) : Ow w' base v zs := by
  obtain ⟨h1, h2, h3, h4⟩ := h
  refine ⟨h1, h2, h3, ?_⟩
  rcases h4 with h4 | ⟨g, cap, cur, rfl, hg, hh, r⟩
  · exact .inl h4
  · have hlt := lt_of_block hh
    exact .inr ⟨g, cap, cur, rfl, hg, (k.block g hlt (hr g rfl hlt)).trans hh, r⟩
theorem Ow.nil (w : World) (base : Nat) : Ow w base (.slice none 0 0) [] := ⟨by simp, by simp, World.ownsRow_nil _ _ _ _⟩

theorem u8s_get (zs : List Nat) (i : Nat) (h : i < zs.length) : (u8s zs)[i]? = some (.int .u8 (zs.getD i 0 : Nat)) := by
  simp [u8s, h]
theorem u8s_one (zs : List Nat) : ∀ u ∈ u8s zs, u.oneCell' = true := by
  intro u hu; obtain ⟨z, _, rfl⟩ := List.mem_map.1 hu; rfl
theorem getD_mem (zs : List Nat) (i : Nat) (h : i < zs.length) : zs.getD i 0 ∈ zs := by
  simp [List.getD, List.getElem?_eq_getElem h]

/-- An own slice's shape. -/
theorem Ow.shape {w : World} {base : Nat} {v : Value} {zs : List Nat} (h : Ow w base v zs) :
    (v = .slice none 0 0 ∧ zs = []) ∨ ∃ g cap, v = .slice (some ⟨g, 0, none⟩) zs.length cap ∧ zs.length ≤ cap ∧ base ≤ g ∧ g < w.heap.size ∧ (∀ j, w.frozen? ⟨g, j, none⟩ = false) ∧
      ∀ i, i < zs.length → w.cell? ⟨g, i, none⟩ = some (.int .u8 (zs.getD i 0 : Nat)) := by
  have h' := h.own
  obtain ⟨h1, h2, h3, h4⟩ := h
  rcases h4 with ⟨rfl, h0⟩ | ⟨g, cap, cur, rfl, hg, hh, hcap, _, _, _⟩
  · exact .inl ⟨rfl, List.eq_nil_of_length_eq_zero h0⟩
  · refine .inr ⟨g, cap, rfl, hcap, hg, lt_of_block hh, fun j => h'.frozenAt j, fun i hi => ?_⟩
    rw [h'.cellAt i (by omega), u8s_get zs i hi]
theorem Ow.bs {w : World} {base : Nat} {v : Value} {zs : List Nat} (h : Ow w base v zs) : Bs w v zs := by
  refine ⟨h.lt, h.len, ?_⟩
  rcases h.shape with ⟨rfl, rfl⟩ | ⟨g, cap, rfl, hcap, _, hg, _, hc⟩
  · exact .inl ⟨rfl, .inl rfl⟩
  · by_cases h0 : zs.length = 0
    · have := List.eq_nil_of_length_eq_zero h0
      subst this
      exact .inl ⟨rfl, .inr ⟨_, _, rfl⟩⟩
    · exact .inr ⟨by omega, g, 0, cap, rfl, hcap, hg, fun i hi => by rw [Nat.zero_add]; exact hc i hi⟩

section
variable {H : Type} {enc : TypeId × Value → H} {P : Program} {w : World} {base : Nat} {spare : Nat → Bool} {held : Bool}

/-- Bytes that came in. -/
theorem view_bytes {t e : TypeId} {v : Value} {d : DataW H} {ps : List MemPlace} {r : Reach} {b0 : Nat} {ts : List TypeId} {ds : List (DataW H)} {j : Nat}
    (hu : P.underlying t = some (.slice e)) (hf : P.underlying e = some (.int .u8)) (hc : P.cellsOf e = 1) (hb : P.bytesOf e = 1)
    (hval : Value.okWide P w r b0 t v) (h : DataW.Trod enc P w base spare held t v d ps) (hlt : ∀ x ∈ ps, x.block < w.heap.size)
    (hsz : (DataW.weightsEach P ts ds).all (· ≤ reachBytes) = true) (ht : ts[j]? = some t) (hd : ds[j]? = some d) : ∃ zs, Bs w v zs ∧ zs.length ≤ 140737488351232 := by
  obtain ⟨a0, len, cap, rfl⟩ := okWide_slice hu hval
  obtain ⟨fuel, hf1⟩ := h
  rcases open_slice1 hu hc hf1 with ⟨hcs, _⟩ | ⟨a, len', cap', m, n, V, D, Pl, hcs, _, hl, hm, hmm, hx, hcell⟩
  · simp [Value.cells] at hcs
    obtain ⟨rfl, rfl, rfl⟩ := hcs
    exact ⟨[], Bs.nil _, by simp⟩
  · simp [Value.cells] at hcs
    obtain ⟨rfl, rfl, rfl⟩ := hcs
    simp only [Prod.mk.injEq] at hx
    obtain ⟨rfl, rfl⟩ := hx
    have hlm : len ≤ m := by rw [hmm]; split <;> omega
    have hreach : len * 1 ≤ 140737488351232 := by
      have := sized_slice hsz ht hd hu
      rw [hb] at this
      simp only [List.length_map, List.length_range, reachBytes] at this
      omega
    have hfl : ∀ i, i < len → ∃ b : Nat, V i = .int .u8 (b : Int) ∧ b < 256 := by
      intro i hi
      obtain ⟨b, hb1, _, hw0⟩ := DataW.trod_int hf (hcell i (by omega)).2
      obtain ⟨hw, hw2⟩ : 0 ≤ b ∧ b < 256 := by
        have h8 : IntKind.u8.min ≤ b ∧ b ≤ IntKind.u8.max := by simpa [Lit.wf, go_sem] using hw0
        have e1 : IntKind.u8.min = 0 := rfl
        have e2 : IntKind.u8.max = 255 := rfl
        omega
      simp only [List.cons.injEq, and_true] at hb1
      exact ⟨b.toNat, by rw [hb1, Int.toNat_of_nonneg hw], by omega⟩
    obtain ⟨B, hB⟩ := choose_lt (α := Nat) (p := fun i b => V i = .int .u8 (b : Int) ∧ b < 256) hfl
    refine ⟨(List.range len).map B, ⟨?_, by simp; omega, ?_⟩, by simpa using hreach⟩
    · intro z hz
      obtain ⟨i, hi, rfl⟩ := List.mem_map.1 hz
      exact (hB i (by simpa using hi)).2
    · by_cases h0 : len = 0
      · subst h0; exact .inl ⟨by simp, .inr ⟨_, _, rfl⟩⟩
      · right
        obtain ⟨b, off, spot⟩ := a
        have hspot : spot = none := by simpa [Addr.add] using World.cell?_spot (hcell 0 (by omega)).1
        subst hspot
        refine ⟨by simp; omega, b, off, cap, by simp, by simpa using hl, hlt (.cell b off) (List.mem_append_left _ (MemPlace.mem_row.2 ⟨0, by omega, by simp⟩)), ?_⟩
        intro i hi
        have hi' : i < len := by simpa using hi
        rw [← add_plain, (hcell i (by omega)).1, (hB i hi').1]
        simp [hi']
end
end Go.Proofs.YtmlladpmecclbaaDoor
/- Blocks of cells (as ShaPut, ShaMem, ShaSum and MacBlock have them; for cuts without these). -/
namespace Go.Proofs.YtmlladpmecclbaaDoor
open Go.RowKit

theorem Hid.mk' {p : Prop} (h : p) : Hid p := h
/-- A block of these cells. -/
def Blk (w : World) (g : Nat) (T : TypeId) (L : List Value) : Prop := w.heap[g]? = some (.cells L.toArray T (0, 0))
theorem Blk.set {w : World} {g : Nat} {T : TypeId} {L : List Value} (h : Blk w g T L) (i : Nat) (v : Value) : Blk (w.setCell ⟨g, i, none⟩ v) g T (L.set i v) := by
  unfold Blk at h ⊢
  rw [heap_setCell_same w g i _ _ _ h]
  simp
theorem Blk.cell {w : World} {g : Nat} {T : TypeId} {L : List Value} (h : Blk w g T L) (i : Nat) : w.cell? ⟨g, i, none⟩ = L[i]? := by
  rw [cell_of_row w g i _ _ _ h]; simp
theorem Blk.free {w : World} {g : Nat} {T : TypeId} {L : List Value} (h : Blk w g T L) (i : Nat) : w.frozen? ⟨g, i, none⟩ = false := frozen_of_row w g i _ _ h
theorem Blk.but {R : Nat → Prop} {w w' : World} {g : Nat} {T : TypeId} {L : List Value} (h : Blk w g T L) (k : But R w w') (hr : ¬ R g) : Blk w' g T L := (k.block g (lt_of_block h) hr).trans h
theorem Blk.lt {w : World} {g : Nat} {T : TypeId} {L : List Value} (h : Blk w g T L) : g < w.heap.size := lt_of_block h

theorem Blk.new {w : World} {g : Nat} {T : TypeId} {L : List Value} (h : w.heap.size = g) : Blk (w.alloc (.cells L.toArray T)) g T L := by
  subst h; exact heap_alloc_new _ _
theorem run_storeVar_at (w : World) (g off : Nat) (t ty : TypeId) (A old B vs : List Value) (hb : Blk w g t (A ++ old ++ B)) (hA : A.length = off) (ho : old.length = vs.length) (hi : (Tryd.prog.info? ty).map (·.size) = some vs.length)
    (h1 : ∀ v ∈ vs, v.oneCell' = true) : ∃ w', (storeVar ty ⟨g, off, none⟩ (.agg vs.toArray)).run Tryd.prog w = .ok () w' ∧ Blk w' g t (A ++ vs ++ B) ∧ But (· = g) w w' := by
  have hst := run_storeCells_at (P := Tryd.prog) g off t vs 0 _ w hb (by simp; omega) h1
  refine ⟨_, ?_, setRow_heap w g _ _ t _ hb, ⟨rfl, rfl, rfl, by simp, fun k _ hk => setRow_other w g k _ (fun e => hk (by rw [e]))⟩⟩
  have e : (A ++ old ++ B).toArray.toList.take (off + 0) ++ vs ++ (A ++ old ++ B).toArray.toList.drop (off + 0 + vs.length) = A ++ vs ++ B := by
    subst hA
    rw [← ho]
    simp [List.drop_append]
  rw [e] at hst
  cases hq : Tryd.prog.info? ty with
  | none => simp [hq] at hi
  | some i =>
    have hs : vs.length = i.size := by simp [hq] at hi; omega
    simp [storeVar, sizeOf, typeInfo, hq, Value.cells, hs, hst]
theorem wpList_store_at {w : World} {ops : Array Oper} {rest : List Oper} {o : Oper} {a : Act} {Q : Exit → Act → World → Prop} (hgd : o.guard = none) (ty : TypeId) (x y : Operand) (ho : o.op = .store ty x y)
    (g off : Nat) (vs : List Value) (hx : a.eval x = .pointer (some ⟨g, off, none⟩)) (hy : a.eval y = .agg vs.toArray)
    (t : TypeId) (A old B : List Value) (hb : Blk w g t (A ++ old ++ B)) (hA : A.length = off) (hold : old.length = vs.length) (hi : (Tryd.prog.info? ty).map (·.size) = some vs.length)
    (h1 : ∀ v ∈ vs, v.oneCell' = true) (h : ∀ w', Blk w' g t (A ++ vs ++ B) → But (· = g) w w' → wpList Tryd.prog ops Q rest (a.put o.dst undef) w') : wpList Tryd.prog ops Q (o :: rest) a w :=
  wpList_plain hgd fun _ hK => by
    obtain ⟨w', hr, hbl, hbt⟩ := run_storeVar_at w g off t ty A old B vs hb hA hold hi h1
    unfold Oper.wp execOp
    simp only [ho, hx, hy, Instr.storeAt, Instr.sureAddr, Sem.run_bind, Sem.run_pure, Result.andThen_ok, hr]
    exact hK _ _ (h w' hbl hbt)
theorem Blk.row {w : World} {g : Nat} {t : TypeId} {L : List Value} (h : Blk w g t L) (M : List Value) : Blk (w.setRow g M.toArray) g t M := setRow_heap w g _ _ t _ h
theorem But.setRow {R : Nat → Prop} {a w : World} (h : But R a w) {g : Nat} (hg : g < a.heap.size → R g) (c : Array Value) : But R a (w.setRow g c) :=
  ⟨h.os, h.tape, h.output, by simp; exact h.size, fun k hk hr => (setRow_other w g k _ (fun e => hr (by rw [e]; exact hg (by rw [← e]; exact hk)))).trans (h.block k hk hr)⟩
/-- A whole array of bytes into a variable that is made for it. -/
theorem wpList_store_u8s {T : TypeId} {n : Nat} (hi : (Tryd.prog.info? T).map (·.size) = some n) {w : World} {ops : Array Oper} {rest : List Oper} {o : Oper} {a : Act} {Q : Exit → Act → World → Prop} (hgd : o.guard = none) (x y : Operand) (ho : o.op = .store T x y)
    (g : Nat) (D : List Nat) (hD : D.length = n) (hx : a.eval x = .pointer (some ⟨g, 0, none⟩)) (hy : a.eval y = .agg (u8s D).toArray) (L : List Value) (hL : L.length = n) (hb : Blk w g T L)
    (h : ∀ w', Blk w' g T (u8s D) → But (· = g) w w' → wpList Tryd.prog ops Q rest (a.put o.dst undef) w') : wpList Tryd.prog ops Q (o :: rest) a w := by
  refine wpList_store_at hgd T x y ho g 0 (u8s D) hx hy T [] L [] (by simpa using hb) rfl (by simp [u8s, hD, hL]) (by rw [hi]; simp [u8s, hD]) (u8s_one _) ?_
  intro w' hb' hb2
  exact h w' (by simpa using hb') hb2
/-- A whole array of bytes out of a variable. -/
theorem wpList_load_u8s {T : TypeId} {n : Nat} {l : Nat} {e : TypeId} (hu : Tryd.prog.underlying T = some (.array l e)) (hi : (Tryd.prog.info? T).map (·.size) = some n)
    {w : World} {ops : Array Oper} {rest : List Oper} {o : Oper} {a : Act} {Q : Exit → Act → World → Prop} (hgd : o.guard = none) (x : Operand) (ho : o.op = .load T x)
    (g : Nat) (D : List Nat) (hD : D.length = n) (hx : a.eval x = .pointer (some ⟨g, 0, none⟩)) (hb : Blk w g T (u8s D))
    (h : wpList Tryd.prog ops Q rest (a.put o.dst (.agg (u8s D).toArray)) w) : wpList Tryd.prog ops Q (o :: rest) a w :=
  wpList_load_row hgd T x ho g hx T _ (0, 0) _ hb hu rfl (by rw [hi]; simp [u8s, hD]) h
theorem u8s_set (L : List Nat) (k x : Nat) : (u8s L).set k (.int .u8 (x : Int)) = u8s (L.set k x) := by simp [u8s, List.map_set]
theorem But.drewN {R : Nat → Prop} {a w : World} (h : But R a w) {n : Nat} : But R a (w.drewN n) := ⟨h.os, h.tape, h.output, h.size, h.block⟩
/-- A whole array of bytes into a variable, as one operation. -/
theorem op_store_u8s {T : TypeId} {n : Nat} (hi : (Tryd.prog.info? T).map (·.size) = some n) {w : World} {o : Oper} {a : Act} {K : Act → World → Prop} {Q : Exit → Act → World → Prop} (x y : Operand) (ho : o.op = .store T x y)
    (g : Nat) (D : List Nat) (hD : D.length = n) (hx : a.eval x = .pointer (some ⟨g, 0, none⟩)) (hy : a.eval y = .agg (u8s D).toArray) (L : List Value) (hL : L.length = n) (hb : Blk w g T L)
    (h : ∀ w', Blk w' g T (u8s D) → But (· = g) w w' → K (a.put o.dst undef) w') : o.wp Tryd.prog a w K Q := by
  obtain ⟨w', hr, hbl, hbt⟩ := run_storeVar_at w g 0 T T [] L [] (u8s D) (by simpa using hb) rfl (by simp [u8s, hD, hL]) (by rw [hi]; simp [u8s, hD]) (u8s_one _)
  unfold Oper.wp execOp
  simp only [ho, hx, hy, Instr.storeAt, Instr.sureAddr, Sem.run_bind, Sem.run_pure, Result.andThen_ok, hr]
  exact h w' (by simpa using hbl) hbt
/-- A whole array of bytes out of a variable, as one operation. -/
theorem op_load_u8s {T : TypeId} {n l : Nat} {e : TypeId} (hu : Tryd.prog.underlying T = some (.array l e)) (hi : (Tryd.prog.info? T).map (·.size) = some n)
    {w : World} {o : Oper} {a : Act} {K : Act → World → Prop} {Q : Exit → Act → World → Prop} (x : Operand) (ho : o.op = .load T x)
    (g : Nat) (D : List Nat) (hD : D.length = n) (hx : a.eval x = .pointer (some ⟨g, 0, none⟩)) (hb : Blk w g T (u8s D))
    (h : K (a.put o.dst (.agg (u8s D).toArray)) w) : o.wp Tryd.prog a w K Q :=
  wp_load_row T x ho g hx T _ (0, 0) _ hb hu rfl (by rw [hi]; simp [u8s, hD]) h
theorem run_loadVar_cells (w : World) (ad : Addr) (ty : TypeId) (cs : List Value) (d : TypeDesc) (hc : ∀ j v, cs[j]? = some v → w.cell? (ad.add j) = some v)
    (hu : Tryd.prog.underlying ty = some d) (hd : (match d with | .struct _ | .array _ _ => true | _ => false) = true) (hi : (Tryd.prog.info? ty).map (·.size) = some cs.length) :
    (loadVar ty ad).run Tryd.prog w = .ok (.agg cs.toArray) w := by
  have hl : (loadCells ad cs.length).run Tryd.prog w = .ok cs.toArray w := run_loadCells_list (P := Tryd.prog) w ad cs hc
  cases hq : Tryd.prog.info? ty with
  | none => simp [hq] at hi
  | some i =>
    have hs : i.size = cs.length := by simpa [hq] using hi
    have hagg : (isAgg ty).run Tryd.prog w = .ok true w := by
      unfold isAgg
      rw [Sem.run_bind, run_underlying hu w]
      cases d <;> simp_all
    simp [loadVar, Sem.run_bind, hagg, sizeOf, typeInfo, hq, hs, hl]
theorem wpList_load_cells {ops : Array Oper} {rest : List Oper} {o : Oper} {a : Act} {w : World} {Q : Exit → Act → World → Prop} (hgd : o.guard = none) (ty : TypeId) (x : Operand) (ho : o.op = .load ty x)
    (ad : Addr) (hx : a.eval x = .pointer (some ad)) (cs : List Value) (d : TypeDesc) (hc : ∀ j v, cs[j]? = some v → w.cell? (ad.add j) = some v)
    (hu : Tryd.prog.underlying ty = some d) (hd : (match d with | .struct _ | .array _ _ => true | _ => false) = true) (hi : (Tryd.prog.info? ty).map (·.size) = some cs.length)
    (h : wpList Tryd.prog ops Q rest (a.put o.dst (.agg cs.toArray)) w) : wpList Tryd.prog ops Q (o :: rest) a w :=
  wpList_plain hgd fun _ hK => by
    unfold Oper.wp execOp
    simp only [ho, hx, Instr.loadAt, Instr.sureAddr, Sem.run_bind, Sem.run_pure, Result.andThen_ok, run_loadVar_cells w ad ty cs d hc hu hd hi]
    exact hK _ _ h
end Go.Proofs.YtmlladpmecclbaaDoor
/- Maps in memory whose keys are arrays or structs: what a look-up tells, what an update leaves. -/
namespace Go.Proofs.YtmlladpmecclbaaDoor
open Go.RowKit Go.ChangeMaps Go.WideMaps Go.MapKept
section
variable {P : Program} {w : World} {b : Nat} {M : List (Value × Value)} {t kt et : TypeId}

/-- A map's block: these keys, each with its element. -/
structure Mp (P : Program) (kt : TypeId) (w : World) (b : Nat) (M : List (Value × Value)) : Prop where
  blk : ∃ es clock, w.heap[b]? = some (.map es clock) ∧ es.toList.map (fun e => (e.key, e.val)) = M
  key : ∀ p ∈ M, ∃ l, keyOf P kt p.1 = some l
  apart : M.Pairwise (fun p q => p.1 ≠ q.1)
theorem Mp.lt (h : Mp P kt w b M) : b < w.heap.size := by
  obtain ⟨⟨es, c, h, _⟩, _⟩ := h
  exact (Array.getElem?_eq_some_iff.1 h).1
theorem Mp.but {R : Nat → Prop} {w' : World} (h : Mp P kt w b M) (k : But R w w') (hr : ¬ R b) : Mp P kt w' b M := by
  have hl := h.lt
  obtain ⟨⟨es, c, h1, h2⟩, h3, h4⟩ := h
  exact ⟨⟨es, c, (k.block b hl hr).trans h1, h2⟩, h3, h4⟩
theorem Mp.new (g : Nat) (h : w.heap.size = g) : Mp P kt (w.alloc (.map #[] 0)) g [] := by
  subst h
  exact ⟨⟨#[], 0, heap_alloc_new _ _, rfl⟩, fun p hp => absurd hp List.not_mem_nil, .nil⟩
theorem Mp.uniq (h : Mp P kt w b M) {k u v : Value} (hu : (k, u) ∈ M) (hv : (k, v) ∈ M) : u = v := by
  have : ∀ {L : List (Value × Value)}, L.Pairwise (fun p q => p.1 ≠ q.1) → (k, u) ∈ L → (k, v) ∈ L → u = v := by
    intro L hp
    induction hp with
    | nil => intro h; cases h
    | cons hx _ ih =>
      intro h1 h2
      rcases List.mem_cons.1 h1 with e1 | g1
      · rcases List.mem_cons.1 h2 with e2 | g2
        · exact (Prod.mk.inj (e1.trans e2.symm)).2
        · exact (hx _ g2 (by rw [← e1])).elim
      · rcases List.mem_cons.1 h2 with e2 | g2
        · exact (hx _ g1 (by rw [← e2])).elim
        · exact ih g1 g2
  exact this h.apart hu hv
theorem Mp.look (K : KeyLaw P kt) (ht : P.underlying t = some (.map kt et)) {z : Value} (hz : (zeroValue et).run P w = .ok z w) (h : Mp P kt w b M) {key : Value} {l : Lit} (hkey : keyOf P kt key = some l) (c : Bool) :
    (∀ v, (key, v) ∈ M → (Instr.lookup t (.map (some b)) key c).run P w = .ok (if c then .tuple #[v, .bool true] else v) w) ∧ ((∀ p ∈ M, p.1 ≠ key) → (Instr.lookup t (.map (some b)) key c).run P w = .ok (if c then .tuple #[z, .bool false] else z) w) := by
  have hu := fun u v => h.uniq (k := key) (u := u) (v := v)
  obtain ⟨⟨es, clock, hb, rfl⟩, hk, _⟩ := h
  have hks : ∀ e ∈ es.toList, ∃ l, keyOf P kt e.key = some l := fun e he => hk (e.key, e.val) (List.mem_map.2 ⟨e, he, rfl⟩)
  rcases K.find w hkey es.toList hks with ⟨h1, h2⟩ | ⟨j, e0, h1, h2, h3⟩
  · refine ⟨fun v hv => ?_, fun _ => by simp [Instr.lookup, run_underlying ht, MapKept.run_getObj_map hb, K.check w _ hkey, h1, hz, Result.andThen]⟩
    obtain ⟨e, he, e2⟩ := List.mem_map.1 hv
    exact absurd (Prod.mk.inj e2).1 (h2 e he)
  · have hm0 : e0 ∈ es.toList := List.mem_of_getElem? h2
    have hm : (key, e0.val) ∈ es.toList.map (fun e => (e.key, e.val)) := List.mem_map.2 ⟨e0, hm0, by rw [h3]⟩
    refine ⟨fun v hv => ?_, fun hn => absurd rfl (hn _ hm)⟩
    rw [hu v e0.val hv hm]
    simp [Instr.lookup, run_underlying ht, MapKept.run_getObj_map hb, K.check w _ hkey, h1, Result.andThen]
/-- In no map nothing is found. -/
theorem look_none (K : KeyLaw P kt) (ht : P.underlying t = some (.map kt et)) {z : Value} (hz : (zeroValue et).run P w = .ok z w) {key : Value} {l : Lit} (hkey : keyOf P kt key = some l) (c : Bool) :
    (Instr.lookup t (.map none) key c).run P w = .ok (if c then .tuple #[z, .bool false] else z) w := by
  rcases K.find w hkey [] (fun e he => absurd he List.not_mem_nil) with ⟨h1, h2⟩ | ⟨j, e0, h1, h2, h3⟩
  · simp [Instr.lookup, run_underlying ht, K.check w _ hkey, h1, hz, Result.andThen]
  · simp at h2
/-- A key that was there has another element, all others stay; a new one is behind them. -/
theorem Mp.put (K : KeyLaw P kt) (ht : P.underlying t = some (.map kt et)) (h : Mp P kt w b M) {key v : Value} {l : Lit} (hkey : keyOf P kt key = some l) :
    ∃ w' M', (Instr.mapUpdate t (.map (some b)) key v).run P w = .ok () w' ∧ Mp P kt w' b M' ∧ But (· = b) w w' ∧ (key, v) ∈ M' ∧ ∀ k u, k ≠ key → ((k, u) ∈ M' ↔ (k, u) ∈ M) := by
  obtain ⟨⟨es, clock, hb, rfl⟩, hk, hap⟩ := h
  have hlt := (Array.getElem?_eq_some_iff.1 hb).1
  have hks : ∀ e ∈ es.toList, ∃ l, keyOf P kt e.key = some l := fun e he => hk (e.key, e.val) (List.mem_map.2 ⟨e, he, rfl⟩)
  have hset : ∀ es' clock', (setBlock w b (.map es' clock')).heap[b]? = some (.map es' clock') ∧ But (· = b) w (setBlock w b (.map es' clock')) := fun es' clock' =>
    ⟨by simp [setBlock, hlt], ⟨rfl, rfl, rfl, by simp [setBlock], fun k _ hk => by simp only [setBlock]; rw [Array.getElem?_setIfInBounds_ne (fun e => hk e.symm)]⟩⟩
  rcases K.find w hkey es.toList hks with ⟨h1, h2⟩ | ⟨j, e0, h1, h2, h3⟩
  · refine ⟨setBlock w b (.map (es.push ⟨key, v, clock⟩) (clock + 1)), es.toList.map (fun e => (e.key, e.val)) ++ [(key, v)], ?_, ⟨⟨_, _, (hset _ _).1, by simp⟩, ?_, ?_⟩, (hset _ _).2, by simp, fun k u hne => ?_⟩
    · simp [Instr.mapUpdate, run_underlying ht, MapKept.run_getObj_map hb, K.check w false hkey, h1, MapKept.run_setObj_map _ hb, Result.andThen, setBlock]
    · intro p hp
      rcases List.mem_append.1 hp with hp | hp
      · exact hk p hp
      · obtain rfl : p = (key, v) := by simpa using hp
        exact ⟨l, hkey⟩
    · refine List.pairwise_append.2 ⟨hap, List.pairwise_singleton _ _, fun p hp q hq => ?_⟩
      obtain rfl : q = (key, v) := by simpa using hq
      obtain ⟨e, he, rfl⟩ := List.mem_map.1 hp
      exact h2 e he
    · constructor
      · intro h
        rcases List.mem_append.1 h with h | h
        · exact h
        · simp at h; exact absurd h.1 hne
      · exact fun h => List.mem_append_left _ h
  · have hlt2 : j < es.size := by
      have := (List.getElem?_eq_some_iff.1 h2).1
      simpa using this
    have hej : es[j]? = some e0 := by simpa using h2
    have hst := K.stays w hkey
    have hg : es[j] = e0 := by rw [Array.getElem?_eq_getElem hlt2] at hej; exact Option.some.inj hej
    have hmod : (es.modify j fun e => { e with key := key, val := v }).toList = es.toList.set j { e0 with key := key, val := v } := by
      apply List.ext_getElem?
      intro i
      rw [← Array.getElem?_toList.symm, Array.getElem?_modify, List.getElem?_set]
      by_cases hij : j = i
      · subst hij; simp [hlt2, hg]
      · simp [hij]
    have hmap : (es.toList.set j { e0 with key := key, val := v }).map (fun e => (e.key, e.val)) = (es.toList.map (fun e => (e.key, e.val))).set j (key, v) := by rw [List.map_set]
    have hkeys : ((es.toList.map (fun e => (e.key, e.val))).set j (key, v)).map Prod.fst = (es.toList.map (fun e => (e.key, e.val))).map Prod.fst := by
      rw [List.map_set]
      apply List.ext_getElem?
      intro i
      rw [List.getElem?_set]
      by_cases hij : j = i
      · subst hij
        simp [h3, hlt2, hg]
      · simp [hij]
    refine ⟨setBlock w b (.map (es.modify j fun e => { e with key := key, val := v }) clock), (es.toList.map (fun e => (e.key, e.val))).set j (key, v), ?_, ⟨⟨_, _, (hset _ _).1, by rw [hmod, hmap]⟩, ?_, ?_⟩, (hset _ _).2, ?_, fun k u hne => ?_⟩
    · simp [Instr.mapUpdate, run_underlying ht, MapKept.run_getObj_map hb, K.check w false hkey, h1, hej, h3, hst, MapKept.run_setObj_map _ hb, Result.andThen, setBlock]
    · intro p hp
      rcases List.mem_or_eq_of_mem_set hp with hp | rfl
      · exact hk p hp
      · exact ⟨l, hkey⟩
    · have : ((es.toList.map (fun e => (e.key, e.val))).map Prod.fst).Pairwise (· ≠ ·) := List.pairwise_map.2 hap
      rw [← hkeys] at this
      exact List.pairwise_map.1 this
    · exact List.mem_iff_getElem?.2 ⟨j, by rw [List.getElem?_set]; simp [hlt2]⟩
    · constructor
      · intro h
        rcases List.mem_or_eq_of_mem_set h with h | h
        · exact h
        · exact absurd (Prod.mk.inj h).1 hne
      · intro h
        obtain ⟨i, hi⟩ := List.mem_iff_getElem?.1 h
        refine List.mem_iff_getElem?.2 ⟨i, ?_⟩
        rw [List.getElem?_set]
        by_cases hij : j = i
        · subst hij
          simp [hej, h3] at hi
          exact absurd hi.1.symm hne
        · simpa [hij] using hi
end
/-- Keys that are bytes. -/
theorem mapM_some {α β : Type} {f : α → Option β} : ∀ {l : List α}, (∀ a ∈ l, ∃ b, f a = some b) → ∃ r, l.mapM f = some r
  | [], _ => ⟨[], rfl⟩
  | a :: l, h => by
    obtain ⟨b, hb⟩ := h a List.mem_cons_self
    obtain ⟨r, hr⟩ := mapM_some (l := l) (fun x hx => h x (List.mem_cons_of_mem _ hx))
    exact ⟨b :: r, by simp [List.mapM_cons, hb, hr]⟩
theorem lits_u8s {t : TypeId} {n d : Nat} (ht : Tryd.prog.underlying t = some (.array n 5)) (hc : Tryd.prog.cellsOf t = n) (D : List Nat) (hl : D.length = n) (hb : ∀ z ∈ D, z < 256) : ∃ ls, Tryd.prog.keyLits (d + 2) t (u8s D) = some ls := by
  have h1 : Tryd.prog.cellsOf 5 = 1 := by kernel_rfl
  obtain ⟨r, hr⟩ := mapM_some (l := List.range n) (f := fun i => Tryd.prog.keyLits (d + 1) 5 (((u8s D).drop (i * 1)).take 1)) (by
    intro i hi
    have hi' : i < D.length := by rw [hl]; simpa using hi
    refine ⟨[.int .u8 (D.getD i 0 : Nat)], ?_⟩
    have e : ((u8s D).drop (i * 1)).take 1 = [.int .u8 (D.getD i 0 : Nat)] := by
      rw [Nat.mul_one]
      have hg : (u8s D)[i]? = some (.int .u8 (D.getD i 0 : Nat)) := u8s_get D i hi'
      have hlt : i < (u8s D).length := by simpa [u8s] using hi'
      rw [List.drop_eq_getElem_cons hlt]
      simp only [List.take_succ_cons, List.take_zero]
      rw [List.getElem?_eq_getElem hlt] at hg
      rw [Option.some.inj hg]
    rw [e]
    have hw : D.getD i 0 < 256 := hb _ (getD_mem D i hi')
    have hwf : (Lit.int .u8 (D.getD i 0 : Nat)).wf = true := by
      have e1 : IntKind.u8.min = 0 := rfl
      have e2 : IntKind.u8.max = 255 := rfl
      simp only [Lit.wf, e1, e2, Bool.and_eq_true, decide_eq_true_eq]
      omega
    simp only [Program.keyLits, Tryd.underlying5, hwf]
    simp)
  have hlen : (u8s D).length = n := by simpa [u8s] using hl
  refine ⟨r.flatten, ?_⟩
  unfold Program.keyLits
  simp only [ht, hc, hlen, h1, if_true]
  rw [hr]; rfl
theorem key_u8s {t : TypeId} {n : Nat} (ht : Tryd.prog.underlying t = some (.array n 5)) (hc : Tryd.prog.cellsOf t = n) (hk : Tryd.prog.keyType t = true) (hsz : 1 ≤ Tryd.prog.types.size) (D : List Nat) (hl : D.length = n) (hb : ∀ z ∈ D, z < 256) : ∃ l, keyOf Tryd.prog t (.agg (u8s D).toArray) = some l := by
  obtain ⟨m, hm⟩ : ∃ m, Tryd.prog.types.size = m + 1 := ⟨Tryd.prog.types.size - 1, by omega⟩
  obtain ⟨ls, h⟩ := lits_u8s (d := m) ht hc D hl hb
  have hf : Value.formed Tryd.prog t (.agg (u8s D).toArray) = true := by simp [Value.formed, ht, hc, u8s, hl]
  refine ⟨.string (keyBytes ls), ?_⟩
  simp only [keyOf, ht, hk, hf, Bool.and_self, if_true, hm, Value.cells]
  rw [show m + 1 + 1 = m + 2 by rfl, h]; rfl
end Go.Proofs.YtmlladpmecclbaaDoor
/- A region that draws its order, by what holds behind each part of it: no order is walked. -/
namespace Go.Proofs.YtmlladpmecclbaaDoor
open Go.RowKit

section
variable {P : Program} {md : Region.Mode} {ops : Array Oper} {Q : Exit → Act → World → Prop}

theorem ready_open {l : List Bool} {i : Nat} (h : i ∈ Region.ready md ops l.toArray) : i < ops.size ∧ l.getD i true = false := by
  simp only [Region.ready, List.mem_filter, List.mem_range, Bool.and_eq_true, Bool.not_eq_true'] at h
  refine ⟨h.1, ?_⟩
  have := h.2.1
  simpa using this
theorem ready_dep {l : List Bool} {i : Nat} {o : Oper} (h : i ∈ Region.ready md ops l.toArray) (ho : ops[i]? = some o) : o.after.all (fun e => !Region.binds md e || l.getD e.on false) = true := by
  simp only [Region.ready, List.mem_filter, List.mem_range, Bool.and_eq_true, ho, Option.map_some, Option.getD_some] at h
  have := h.2.2
  simpa using this
theorem ready_none {l : List Bool} (hl : l.length = ops.size) (h : l.count false = 0) : Region.ready md ops l.toArray = [] := by
  cases hr : Region.ready md ops l.toArray with
  | nil => rfl
  | cons x xs =>
    have hx := ready_open (md := md) (ops := ops) (l := l) (i := x) (by rw [hr]; exact List.mem_cons_self)
    have hlt : x < l.length := by rw [hl]; exact hx.1
    have hm : false ∈ l := by
      have e : l.getD x true = l[x] := by simp [List.getD, hlt]
      rw [← hx.2, e]; exact List.getElem_mem hlt
    exact absurd h (Nat.pos_iff_ne_zero.1 (List.count_pos_iff.2 hm))
theorem count_listed {l : List Bool} {i : Nat} (hi : i < l.length) (h : l.getD i true = false) : (l.set i true).count false + 1 = l.count false := by
  have e : l[i] = false := by simpa [List.getD, hi] using h
  have hm : 0 < l.count false := List.count_pos_iff.2 (by rw [← e]; exact List.getElem_mem hi)
  rw [List.count_set hi]
  simp [e]; omega

theorem wpAny_inv (J : List Bool → Act → World → Prop)
    (step : ∀ l a w i o, J l a w → l.length = ops.size → i ∈ Region.ready md ops l.toArray → ops[i]? = some o → o.wp P a w (J (l.set i true)) Q)
    (hg : ops.all (fun o => o.guard.isNone) = true)
    (fin : ∀ l a w, J l a w → l.length = ops.size → Region.ready md ops l.toArray = [] → Q .normal a w) :
    ∀ (fuel : Nat) (l : List Bool) (a : Act) (w : World), l.length = ops.size → l.count false ≤ fuel → J l a w → wpAny P md ops Q fuel l.toArray a w := by
  intro fuel
  induction fuel with
  | zero =>
    intro l a w hl hc hj
    have hr := ready_none (md := md) hl (by omega)
    exact ⟨hr, fin l a w hj hl hr⟩
  | succ fuel ih =>
    intro l a w hl hc hj
    refine ⟨fun hr => fin l a w hj hl hr, fun i hi => ?_⟩
    obtain ⟨hlt, hf⟩ := ready_open hi
    have hlt' : i < l.length := by omega
    have ho : ops[i]? = some ops[i] := by simp [hlt]
    have hst := step l a w i _ hj hl hi ho
    have e : l.toArray.setIfInBounds i true = (l.set i true).toArray := by simp
    rw [e]
    have hw : Region.wanted ops[i] (yielded ops a.tmps) = true := by
      have h' : (ops[i]).guard.isNone = true := by
        rw [Array.all_eq_true] at hg
        exact hg i hlt
      have h2 : (ops[i]).guard = none := by simpa using h'
      simp [Region.wanted, h2]
    unfold wpOp
    rw [ho]
    simp only [hw, if_true]
    refine .inl (Oper.wp_mono (fun a' w' hj' => ih _ a' w' (by simp [hl]) ?_ hj') hst)
    have := count_listed hlt' hf
    omega

/-- Each operation waits only for ones ahead of it. -/
def ahead (ops : Array Oper) : Bool := (List.range ops.size).all fun i => ((ops[i]?).map fun o => o.after.all fun e => !Region.binds .any e || decide (e.on < i)).getD true
theorem ready_all {l : List Bool} (ha : ahead ops = true) (hl : l.length = ops.size) (hr : Region.ready .any ops l.toArray = []) : l = List.replicate ops.size true := by
  have key : ∀ n i, i ≤ n → i < ops.size → l.getD i false = true := by
    intro n
    induction n with
    | zero =>
      intro i hi hlt
      obtain rfl : i = 0 := by omega
      cases h : l.getD 0 false with
      | true => rfl
      | false =>
        exfalso
        have hm : 0 ∈ Region.ready .any ops l.toArray := by
          simp only [Region.ready, List.mem_filter, List.mem_range, Bool.and_eq_true]
          refine ⟨hlt, ?_, ?_⟩
          · have : l[0]? = some l[0] := List.getElem?_eq_getElem (by omega)
            simp [List.getD, this] at h
            simp [this, h]
          · have ho : ops[0]? = some ops[0] := by simp [hlt]
            simp only [ho, Option.map_some, Option.getD_some, Array.all_eq_true]
            intro j hj
            have h2 := (List.all_eq_true.1 ha) 0 (by simpa using hlt)
            simp only [ho, Option.map_some, Option.getD_some, Array.all_eq_true] at h2
            have := h2 j hj
            simp at this
            simp [this]
        rw [hr] at hm; cases hm
    | succ n ih =>
      intro i hi hlt
      cases h : l.getD i false with
      | true => rfl
      | false =>
        exfalso
        have hm : i ∈ Region.ready .any ops l.toArray := by
          simp only [Region.ready, List.mem_filter, List.mem_range, Bool.and_eq_true]
          refine ⟨hlt, ?_, ?_⟩
          · have : l[i]? = some l[i] := List.getElem?_eq_getElem (by omega)
            simp [List.getD, this] at h
            simp [this, h]
          · have ho : ops[i]? = some ops[i] := by simp [hlt]
            simp only [ho, Option.map_some, Option.getD_some, Array.all_eq_true]
            intro j hj
            have h2 := (List.all_eq_true.1 ha) i (by simpa using hlt)
            simp only [ho, Option.map_some, Option.getD_some, Array.all_eq_true] at h2
            have h3' := h2 j hj
            rw [Bool.or_eq_true] at h3' ⊢
            rcases h3' with h3' | h3'
            · exact .inl h3'
            have h3 : ((ops[i]).after[j]).on < i := by simpa using h3'
            have h4 := ih _ (show ((ops[i]).after[j]).on ≤ n by omega) (by omega)
            right
            simpa using h4
        rw [hr] at hm; cases hm
  apply List.ext_getElem (by simpa using hl)
  intro i h1 h2
  have h3 := key i i (Nat.le_refl _) (by omega)
  simpa [List.getD, h1] using h3

/-- A region that draws: J holds at first and goes on by each operation that is ready; behind all of them it gives the post. -/
theorem region_inv {id : Nat} {a : Act} {w : World} (hm : P.follows .mixedOrders = true) (hg : ops.all (fun o => o.guard.isNone) = true) (ha : ahead ops = true) (J : List Bool → Act → World → Prop)
    (h0 : J (List.replicate ops.size false) a w.drew)
    (step : ∀ l a w i o, J l a w → l.getD i true = false → o.after.all (fun e => !Region.binds .any e || l.getD e.on false) = true → i < ops.size → ops[i]? = some o → o.wp P a w (J (l.set i true)) Q)
    (fin : ∀ a w, J (List.replicate ops.size true) a w → Q .normal a w) : (Code.region id ops true).wp P Q a w := by
  refine wp_region_any hm ?_
  have e : Array.replicate ops.size false = (List.replicate ops.size false).toArray := by simp
  rw [e]
  exact wpAny_inv J (fun l a w i o hj _ hi ho => step l a w i o hj (ready_open hi).2 (ready_dep hi ho) (ready_open hi).1 ho) hg (fun l a w hj hl hr => fin a w (by rw [← ready_all ha hl hr]; exact hj)) ops.size _ a _ (by simp) (by simp) h0

section
variable {o : Oper} {a : Act} {w w' : World} {K : Act → World → Prop}
theorem op_value (v : Value) (hrun : (execOp a.eval o).run P w = .ok (.value v) w') (h : K (a.put o.dst v) w') : o.wp P a w K Q := by
  unfold Oper.wp; rw [hrun]; exact h
theorem op_skip (hrun : (execOp a.eval o).run P w = .ok .skip w') (h : K (a.put o.dst undef) w') : o.wp P a w K Q := by
  unfold Oper.wp; rw [hrun]; exact h
theorem op_enter (f : FuncId) (args : Array Value) (hrun : (execOp a.eval o).run P w = .ok (.enter f args) w) (h : Calls P f args w fun e w'' => ∃ v, e = .returned v ∧ K (a.put o.dst v) w'') : o.wp P a w K Q := by
  unfold Oper.wp; rw [hrun, Oper.upon_enter]
  refine h.mono fun e w'' hh => ?_
  obtain ⟨v, rfl, hk⟩ := hh
  exact hk
/-- A variable is made. -/
theorem op_alloc (T : TypeId) (Z : Array Value) (ho : o.op = .alloc T) (hz : (zeroValue T).run P w = .ok (.agg Z) w)
    (h : K (a.put o.dst (.pointer (some ⟨w.heap.size, 0, none⟩))) (w.alloc (.cells Z T))) : o.wp P a w K Q := by
  refine op_value (.pointer (some ⟨w.heap.size, 0, none⟩)) ?_ h
  simp [execOp, ho, go_sem, hz]
/-- A function of the program is called. -/
theorem op_call (f : FuncId) (A : List Operand) (T : Array TypeId) (args : Array Value) (ho : o.op = .call { callee := .value (.func f), args := A.toArray, argTypes := T }) (hA : (A.map a.eval).toArray = args) (hf : (callFunc f args).run P w = .ok (.enter f args) w)
    (h : Calls P f args w fun e w'' => ∃ v, e = .returned v ∧ K (a.put o.dst v) w'') : o.wp P a w K Q := by
  refine op_enter f args ?_ h
  subst hA
  simp [execOp, ho, go_sem, Act.eval, hf]
/-- A slice of all of a variable, or of a slice. -/
theorem op_slice (T : TypeId) (x : Operand) (u v : Value) (ho : o.op = .slice T x none none none) (hx : a.eval x = u) (hr : (Instr.sliceAt T u none none none).run P w = .ok v w)
    (h : K (a.put o.dst v) w) : o.wp P a w K Q := by
  refine op_value v ?_ h
  unfold execOp
  simp only [ho, Option.map_none, hx]
  simp only [Sem.run_bind, hr, Result.andThen_ok, Sem.run_pure]
end
end
end Go.Proofs.YtmlladpmecclbaaDoor
/- A region that draws its order, whose operations only read but for the last one, which waits for all the others. -/
namespace Go.Proofs.YtmlladpmecclbaaDoor
open Go.RowKit

section
variable {P : Program} {l : List Oper} {o : Oper} {Q : Exit → Act → World → Prop}

/-- x waits for the operation j. -/
def waitsFor (x : Oper) (j : Nat) : Bool := x.after.any fun e => Region.binds .any e && e.on == j
/-- Each operation is waited for by a later one, or by the last one. -/
def lastFull (l : List Oper) (o : Oper) : Bool :=
  (List.range l.length).all fun j => waitsFor o j || (List.range l.length).any fun i => decide (j < i) && ((l[i]?).map fun x => waitsFor x j).getD false
def Closed (l : List Oper) (s : List Bool) : Prop := ∀ i x, l[i]? = some x → s.getD i false = true → ∀ j, waitsFor x j = true → s.getD j false = true

theorem dep_done {x : Oper} {s : List Bool} (h : x.after.all (fun e => !Region.binds .any e || s.getD e.on false) = true) (j : Nat) (hj : waitsFor x j = true) : s.getD j false = true := by
  unfold waitsFor at hj
  rw [Array.any_eq_true] at hj
  obtain ⟨k, hk, hk2⟩ := hj
  simp only [Bool.and_eq_true, beq_iff_eq] at hk2
  rw [Array.all_eq_true] at h
  have := h k hk
  rw [hk2.1, hk2.2] at this
  simpa using this
theorem all_done {s : List Bool} (hf : lastFull l o = true) (hc : Closed l s) (ho : ∀ j, j < l.length → waitsFor o j = true → s.getD j false = true) : ∀ n j, l.length - j ≤ n → j < l.length → s.getD j false = true := by
  intro n
  induction n with
  | zero => intro j h1 h2; omega
  | succ n ih =>
    intro j h1 h2
    have h := List.all_eq_true.1 hf j (by simpa using h2)
    rw [Bool.or_eq_true] at h
    rcases h with h | h
    · exact ho j h2 h
    · obtain ⟨i, hi, h3⟩ := List.any_eq_true.1 h
      simp only [Bool.and_eq_true, decide_eq_true_eq] at h3
      have hil : i < l.length := by simpa using hi
      have hx : l[i]? = some l[i] := List.getElem?_eq_getElem hil
      rw [hx] at h3
      exact hc i _ hx (ih i (by omega) hil) j (by simpa using h3.2)
theorem getD_snoc {s : List Bool} {i : Nat} {d : Bool} (hi : i < s.length) : (s ++ [false]).getD i d = s.getD i d := by
  simp [List.getD, List.getElem?_append_left hi]

theorem last_inv {C : World → Prop} {Qq : Act → Prop} (hg : l.all (fun x => x.guard.isNone) = true) (hgo : o.guard = none) (ha : ahead (l ++ [o]).toArray = true) (hf : lastFull l o = true)
    (hQ : ∀ a w, C w → Qq a → wpList P (l ++ [o]).toArray Q [o] a w) :
    ∀ (fuel : Nat) (s : List Bool) (a : Act) (w : World), s.length = l.length → s.count false ≤ fuel → Closed l s → C w → wpAnyQ P .any l.toArray C Qq fuel s.toArray a → wpAny P .any (l ++ [o]).toArray Q (fuel + 1) (s ++ [false]).toArray a w := by
  have hlast : ∀ (fuel : Nat) (s : List Bool) (a : Act) (w : World), s.length = l.length → (∀ j, j < l.length → s.getD j false = true) → C w → Qq a → wpOp P (l ++ [o]).toArray Q l.length (wpAny P .any (l ++ [o]).toArray Q fuel ((s ++ [false]).toArray.setIfInBounds l.length true)) a w := by
    intro fuel s a w hs hall hC hq
    unfold wpOp
    have e : (l ++ [o]).toArray[l.length]? = some o := by simp
    rw [e]
    simp only [Region.wanted, hgo, if_true]
    have hq2 := hQ a w hC hq
    unfold wpList at hq2
    simp only [Region.wanted, hgo, if_true] at hq2
    refine hq2.imp (Oper.wp_mono (fun a' w' h' => ?_)) id
    have e2 : (s ++ [false]).toArray.setIfInBounds l.length true = (s ++ [true]).toArray := by simp [← hs]
    rw [e2]
    have hn : Region.ready .any (l ++ [o]).toArray (s ++ [true]).toArray = [] := by
      refine ready_none (by simp [hs]) ?_
      rw [List.count_eq_zero]
      intro hm
      obtain ⟨k, hk, hk2⟩ := List.getElem_of_mem hm
      by_cases hkl : k < s.length
      · have h1 := hall k (by omega)
        rw [List.getElem_append_left hkl] at hk2
        simp [List.getD, hkl, hk2] at h1
      · have : k = s.length := by simp at hk; omega
        subst this
        simp at hk2
    cases fuel with
    | zero => exact ⟨hn, h'⟩
    | succ n => exact ⟨fun _ => h', fun i hi => by rw [hn] at hi; cases hi⟩
  intro fuel
  induction fuel with
  | zero =>
    intro s a w hs hc hcl hC h
    refine ⟨fun hr => ?_, fun i hi => ?_⟩
    · have := ready_all ha (by simp [hs]) hr
      have e := congrArg (fun t => t.getD s.length true) this
      simp [List.getD, hs] at e
    · obtain ⟨hlt, hfalse⟩ := ready_open hi
      have hi2 : i = l.length := by
        by_cases hil : i < l.length
        · exfalso
          rw [getD_snoc (by omega)] at hfalse
          have hm : false ∈ s := by
            have e : s[i]'(by omega) = false := by simpa [List.getD, show i < s.length by omega] using hfalse
            rw [← e]; exact List.getElem_mem _
          have := List.count_pos_iff.2 hm
          omega
        · simp at hlt; omega
      subst hi2
      refine hlast _ s a w hs (fun j hj => ?_) hC h.2
      cases hb : s.getD j false with
      | true => rfl
      | false =>
        exfalso
        have hm : false ∈ s := by
          have e : s[j]'(by omega) = false := by simpa [List.getD, show j < s.length by omega] using hb
          rw [← e]; exact List.getElem_mem _
        have := List.count_pos_iff.2 hm
        omega
  | succ fuel ih =>
    intro s a w hs hc hcl hC h
    refine ⟨fun hr => ?_, fun i hi => ?_⟩
    · have := ready_all ha (by simp [hs]) hr
      have e := congrArg (fun t => t.getD s.length true) this
      simp [List.getD, hs] at e
    · obtain ⟨hlt, hfalse⟩ := ready_open hi
      by_cases hil : i < l.length
      · have hx : l[i]? = some l[i] := List.getElem?_eq_getElem hil
        have hox : (l ++ [o]).toArray[i]? = some l[i] := by simp [List.getElem?_append_left hil, hil]
        have hdep := ready_dep hi hox
        have hgx : (l[i]).guard = none := by
          have := List.all_eq_true.1 hg l[i] (List.getElem_mem hil)
          simpa using this
        have hdep2 : (l[i]).after.all (fun e => !Region.binds .any e || s.getD e.on false) = true := by
          rw [Array.all_eq_true] at hdep ⊢
          intro k hk
          have h1 := hdep k hk
          have h2 := List.all_eq_true.1 ha i (by simp; omega)
          rw [hox] at h2
          simp only [Option.map_some, Option.getD_some, Array.all_eq_true] at h2
          have h3 := h2 k hk
          rw [Bool.or_eq_true] at h3
          rcases h3 with h3 | h3
          · rw [h3]; rfl
          · have h4 : ((l[i]).after[k]).on < i := by simpa using h3
            rw [getD_snoc (by omega)] at h1
            exact h1
        rw [getD_snoc (by omega)] at hfalse
        have hrd : i ∈ Region.ready .any l.toArray s.toArray := by
          simp only [Region.ready, List.mem_filter, List.mem_range, Bool.and_eq_true, Bool.not_eq_true']
          refine ⟨by simpa using hil, by simpa using hfalse, ?_⟩
          have : l.toArray[i]? = some l[i] := by simp [hil]
          rw [this]
          simpa using hdep2
        have hq := h.2 i hrd
        unfold qOp at hq
        have : l.toArray[i]? = some l[i] := by simp [hil]
        rw [this] at hq
        simp only [Region.wanted, hgx, if_true] at hq
        unfold wpOp
        rw [hox]
        simp only [Region.wanted, hgx, if_true]
        refine .inl (Oper.wp_of_quiet hC (fun a' w' hC' hk => ?_) hq)
        have e1 : s.toArray.setIfInBounds i true = (s.set i true).toArray := by simp
        have e2 : (s ++ [false]).toArray.setIfInBounds i true = (s.set i true ++ [false]).toArray := by simp [List.set_append_left _ _ (show i < s.length by omega)]
        rw [e2]
        rw [e1] at hk
        refine ih _ a' w' (by simp [hs]) (by have := count_listed (l := s) (i := i) (by omega) hfalse; omega) ?_ hC' hk
        intro k x hkx hk1 j hj
        have hset : ∀ j, s.getD j false = true → (s.set i true).getD j false = true := by
          intro j hj
          by_cases hji : j = i
          · subst hji; simp [List.getD, show j < s.length by omega]
          · simp only [List.getD] at hj ⊢
            rw [List.getElem?_set_ne (fun e => hji e.symm)]; exact hj
        by_cases hki : k = i
        · subst hki
          have : x = l[k] := Option.some.inj (hkx.symm.trans hx)
          subst this
          exact hset j (dep_done hdep2 j hj)
        · refine hset j (hcl k x hkx ?_ j hj)
          simp only [List.getD] at hk1 ⊢
          rwa [List.getElem?_set_ne (fun e => hki e.symm)] at hk1
      · have hi2 : i = l.length := by simp at hlt; omega
        subst hi2
        have hox : (l ++ [o]).toArray[l.length]? = some o := by simp
        have hdep := ready_dep hi hox
        have hall : ∀ j, j < l.length → s.getD j false = true := fun j hj => all_done hf hcl (fun j hj hw => by
          have := dep_done hdep j hw
          rwa [getD_snoc (by omega)] at this) (l.length - j) j (Nat.le_refl _) hj
        have hn : Region.ready .any l.toArray s.toArray = [] := by
          refine ready_none (by simp [hs]) ?_
          rw [List.count_eq_zero]
          intro hm
          obtain ⟨k, hk, hk2⟩ := List.getElem_of_mem hm
          have h1 := hall k (by omega)
          simp [List.getD, hk, hk2] at h1
        exact hlast _ s a w hs hall hC (h.1 hn)

/-- One walk of the text's order serves: all operations but the last one only read. -/
theorem region_ends {id : Nat} {a : Act} {w : World} (hm : P.follows .mixedOrders = true) (hB : Region.lexB .any l.toArray = true) (hg : l.all (fun x => x.guard.isNone) = true) (hgo : o.guard = none) (ha : ahead (l ++ [o]).toArray = true) (hf : lastFull l o = true)
    (h : wpQuiet P l.toArray (fun w' => ∃ n, w' = w.drewN n) (fun a' => ∀ w', (∃ n, w' = w.drewN n) → wpList P (l ++ [o]).toArray Q [o] a' w') l a) : (Code.region id (l ++ [o]).toArray true).wp P Q a w := by
  simp only [Region.lexB, Bool.and_eq_true] at hB
  refine wp_region_any hm ?_
  have hq := wpAnyQ_lex (C := fun w' => ∃ n, w' = w.drewN n) (md := .any) hB.1 l 0 (Array.replicate l.length false) a (by simp) (by simpa using hB.2) h
  have e : Array.replicate (l ++ [o]).toArray.size false = (List.replicate l.length false ++ [false]).toArray := by
    rw [← List.replicate_succ']; simp
  rw [e]
  have e2 : (l ++ [o]).toArray.size = l.length + 1 := by simp
  rw [e2]
  refine last_inv (C := fun w' => ∃ n, w' = w.drewN n) (Qq := fun a' => ∀ w', (∃ n, w' = w.drewN n) → wpList P (l ++ [o]).toArray Q [o] a' w') hg hgo ha hf (fun a w hC h => h w hC) l.length (List.replicate l.length false) a _ (by simp) (by simp) ?_ ⟨1, rfl⟩ (by simpa using hq)
  intro i x _ h1
  simp only [List.getD, List.getElem?_replicate] at h1
  split at h1 <;> cases h1
theorem wpQuiet_mono {ops : Array Oper} {C : World → Prop} {q q' : Act → Prop} (h : ∀ a, q a → q' a) : ∀ (l : List Oper) (a : Act), wpQuiet P ops C q l a → wpQuiet P ops C q' l a
  | [], a, hh => h a hh
  | x :: l, a, hh => by
    unfold wpQuiet at hh ⊢
    split
    · rename_i hw
      simp only [hw, if_true] at hh
      exact Oper.quiet_mono (fun a' => wpQuiet_mono h l a') hh
    · rename_i hw
      simp only [hw] at hh
      exact wpQuiet_mono h l _ hh
/-- The same, the last operation by itself. -/
theorem region_last {id : Nat} {a : Act} {w : World} (hm : P.follows .mixedOrders = true) (hB : Region.lexB .any l.toArray = true) (hg : l.all (fun x => x.guard.isNone) = true) (hgo : o.guard = none) (ha : ahead (l ++ [o]).toArray = true) (hf : lastFull l o = true)
    (h : wpQuiet P l.toArray (fun w' => ∃ n, w' = w.drewN n) (fun a' => ∀ w', (∃ n, w' = w.drewN n) → o.wp P a' w' (fun a w => Q .normal a w) Q) l a) : (Code.region id (l ++ [o]).toArray true).wp P Q a w := by
  refine region_ends hm hB hg hgo ha hf (wpQuiet_mono (fun a' h w' hw => ?_) l a h)
  unfold wpList
  simp only [Region.wanted, hgo, if_true]
  exact .inl (h w' hw)
end
end Go.Proofs.YtmlladpmecclbaaDoor
/- A region that draws its order: operations that only read, each with its value, and a few that turn memory, told by what holds behind each of them. -/
namespace Go.Proofs.YtmlladpmecclbaaDoor
open Go.RowKit

section
variable {P : Program} {ops : Array Oper} {Q : Exit → Act → World → Prop}

def slotAt (ops : Array Oper) (j : Nat) : Option Tmp := (ops[j]?).bind (·.dst)
/-- No two operations have one slot. -/
def okSlots (ops : Array Oper) (sz : Nat) : Bool :=
  (List.range ops.size).all fun i => match slotAt ops i with
    | some d => decide (d < sz) && (List.range ops.size).all fun j => j == i || !(slotAt ops j == some d)
    | none => true
def hasSlot (ops : Array Oper) (d : Nat) : Bool := (List.range ops.size).any fun j => slotAt ops j == some d
theorem slotAt_lt {j : Nat} {d : Tmp} (h : slotAt ops j = some d) : j < ops.size := by
  unfold slotAt at h
  cases ho : ops[j]? with
  | none => rw [ho] at h; cases h
  | some o => exact (Array.getElem?_eq_some_iff.1 ho).1
theorem okSlots_at {sz i : Nat} {d : Tmp} (h : okSlots ops sz = true) (hd : slotAt ops i = some d) : d < sz ∧ ∀ j, j ≠ i → slotAt ops j ≠ some d := by
  have h1 := List.all_eq_true.1 h i (by simpa using slotAt_lt hd)
  rw [hd] at h1
  simp only [Bool.and_eq_true, decide_eq_true_eq] at h1
  refine ⟨h1.1, fun j hj e => ?_⟩
  have h2 := List.all_eq_true.1 h1.2 j (by simpa using slotAt_lt e)
  simp [hj, e] at h2
theorem hasSlot_of {j : Nat} {d : Tmp} (h : slotAt ops j = some d) : hasSlot ops d = true :=
  List.any_eq_true.2 ⟨j, by simpa using slotAt_lt h, by simp [h]⟩
def upd {α : Type} (f : Nat → α) (i : Nat) (v : α) : Nat → α := fun j => if j = i then v else f j
theorem upd_same {α : Type} (f : Nat → α) (i : Nat) (v : α) : upd f i v i = v := by simp [upd]
theorem upd_other {α : Type} (f : Nat → α) {i j : Nat} (v : α) (h : j ≠ i) : upd f i v j = f j := by simp [upd, h]

/-- What an operation sees when its turn comes: the values of those it waits for, and the other slots as they were. -/
structure Sees (ops : Array Oper) (tab : Nat → Option Value) (f : Nat → Value) (a0 a : Act) (o : Oper) : Prop where
  dep : ∀ j d, waitsFor o j = true → slotAt ops j = some d → a.eval (.tmp d) = f j
  tab : ∀ j d u, waitsFor o j = true → slotAt ops j = some d → tab j = some u → a.eval (.tmp d) = u
  old : ∀ d, hasSlot ops d = false → a.eval (.tmp d) = a0.eval (.tmp d)

theorem eval_at {a : Act} {d : Tmp} {v : Value} (h : a.tmps[d]? = some v) : a.eval (.tmp d) = v := by
  unfold Act.eval
  simp [Array.getD_eq_getD_getElem?, h]

/-- The frame behind all operations. -/
def putAll (ops : Array Oper) (f : Nat → Value) : List Nat → Act → Act
  | [], a => a
  | i :: l, a => putAll ops f l (a.put (slotAt ops i) (f i))
theorem putAll_defers (f : Nat → Value) : ∀ (l : List Nat) (a : Act), (putAll ops f l a).defers = a.defers
  | [], a => rfl
  | i :: l, a => by
    show (putAll ops f l (a.put (slotAt ops i) (f i))).defers = _
    rw [putAll_defers f l]
    cases slotAt ops i <;> rfl
theorem put_get (a : Act) (s : Option Tmp) (v : Value) (d : Tmp) : (a.put s v).tmps[d]? = if s = some d ∧ d < a.tmps.size then some v else a.tmps[d]? := by
  cases s with
  | none => simp [Act.put]
  | some t =>
    show (a.tmps.setIfInBounds t v)[d]? = _
    by_cases h : t = d
    · subst h
      by_cases hs : t < a.tmps.size
      · simp [hs]
      · simp [hs]
    · rw [Array.getElem?_setIfInBounds_ne h]
      simp [h]
theorem put_size (a : Act) (s : Option Tmp) (v : Value) : (a.put s v).tmps.size = a.tmps.size := by
  cases s <;> simp [Act.put]
theorem putAll_size (f : Nat → Value) : ∀ (l : List Nat) (a : Act), (putAll ops f l a).tmps.size = a.tmps.size
  | [], a => rfl
  | i :: l, a => by
    show (putAll ops f l (a.put (slotAt ops i) (f i))).tmps.size = _
    rw [putAll_size f l, put_size]
theorem putAll_get (f : Nat → Value) (hs : ∀ i j d, slotAt ops i = some d → slotAt ops j = some d → i = j) : ∀ (l : List Nat) (a : Act) (d : Tmp), d < a.tmps.size → (putAll ops f l a).tmps[d]? = match l.find? (fun j => slotAt ops j == some d) with | some j => some (f j) | none => a.tmps[d]?
  | [], a, d, _ => rfl
  | i :: l, a, d, hd => by
    show (putAll ops f l (a.put (slotAt ops i) (f i))).tmps[d]? = _
    rw [putAll_get f hs l _ d (by rw [put_size]; exact hd)]
    by_cases hi : slotAt ops i = some d
    · have e : (i :: l).find? (fun j => slotAt ops j == some d) = some i := by simp [List.find?, hi]
      rw [e]
      cases h : l.find? (fun j => slotAt ops j == some d) with
      | none => simp [put_get, hi, hd]
      | some j =>
        have hj := List.find?_some h
        have : slotAt ops j = some d := by simpa using hj
        rw [hs i j d hi this]
    · have e : (i :: l).find? (fun j => slotAt ops j == some d) = l.find? (fun j => slotAt ops j == some d) := by
        have hb : (slotAt ops i == some d) = false := by simpa using hi
        simp [List.find?, hb]
      rw [e]
      cases h : l.find? (fun j => slotAt ops j == some d) with
      | none => simp [put_get, hi]
      | some j => rfl

/-- What is done waited for nothing that isn't. -/
def Shut (ops : Array Oper) (d : Nat → Bool) : Prop := ∀ i o j, ops[i]? = some o → waitsFor o j = true → d i = true → d j = true
structure StageI (ops : Array Oper) (tab : Nat → Option Value) (C : (Nat → Bool) → (Nat → Value) → World → Prop) (a0 : Act) (f : Nat → Value) (l : List Bool) (a : Act) (w : World) : Prop where
  world : C (fun i => l.getD i false) f w
  shut : Shut ops (fun i => l.getD i false)
  defers : a.defers = a0.defers
  size : a.tmps.size = a0.tmps.size
  done : ∀ j d, slotAt ops j = some d → l.getD j false = true → a.tmps[d]? = some (f j)
  told : ∀ j u, tab j = some u → l.getD j false = true → f j = u
  old : ∀ d, hasSlot ops d = false → a.tmps[d]? = a0.tmps[d]?

theorem region_stage {id : Nat} {a0 : Act} {w0 : World} (hm : P.follows .mixedOrders = true) (hg : ops.all (fun o => o.guard.isNone) = true) (ha : ahead ops = true) (hs : okSlots ops a0.tmps.size = true)
    (tab : Nat → Option Value) (C : (Nat → Bool) → (Nat → Value) → World → Prop)
    (h0 : ∀ f, C (fun _ => false) f w0.drew)
    (keep : ∀ i v d f w, tab i = some v → C d f w → C (upd d i true) (upd f i v) w)
    (quiet : ∀ i o v d f a w, ops[i]? = some o → tab i = some v → d i = false → Shut ops d → C d f w → Sees ops tab f a0 a o → o.wp P a w (fun a' w' => a' = a.put o.dst v ∧ C d f w') Q)
    (turn : ∀ i o d f a w, ops[i]? = some o → tab i = none → d i = false → Shut ops d → (∀ j, waitsFor o j = true → d j = true) → C d f w → Sees ops tab f a0 a o → o.wp P a w (fun a' w' => ∃ v, a' = a.put o.dst v ∧ C (upd d i true) (upd f i v) w') Q)
    (fin : ∀ f w, C (fun i => decide (i < ops.size)) f w → (∀ j u, j < ops.size → tab j = some u → f j = u) → Q .normal (putAll ops f (List.range ops.size) a0) w) :
    (Code.region id ops true).wp P Q a0 w0 := by
  have huniq : ∀ i j d, slotAt ops i = some d → slotAt ops j = some d → i = j := by
    intro i j d hi hj
    by_cases e : i = j
    · exact e
    · exact absurd hj ((okSlots_at hs hi).2 j (fun h => e h.symm))
  refine region_inv hm hg ha (fun l a w => ∃ f, l.length = ops.size ∧ StageI ops tab C a0 f l a w) ?_ ?_ ?_
  · refine ⟨fun _ => undef, by simp, ?_, fun i o j _ _ h => ?_, rfl, rfl, fun j d _ h => ?_, fun j u _ h => ?_, fun _ _ => rfl⟩
    · have e : (fun i => (List.replicate ops.size false).getD i false) = fun _ => false := by
        funext i
        simp only [List.getD, List.getElem?_replicate]
        split <;> rfl
      rw [e]; exact h0 _
    · exfalso
      simp only [List.getD, List.getElem?_replicate] at h
      split at h <;> cases h
    · exfalso
      simp only [List.getD, List.getElem?_replicate] at h
      split at h <;> cases h
    · exfalso
      simp only [List.getD, List.getElem?_replicate] at h
      split at h <;> cases h
  · rintro l a w i o ⟨f, hl, hj⟩ hf hd hi ho
    have hsee : Sees ops tab f a0 a o := ⟨fun j d hw hsl => eval_at (hj.done j d hsl (dep_done hd j hw)), fun j d u hw hsl ht => by rw [← hj.told j u ht (dep_done hd j hw)]; exact eval_at (hj.done j d hsl (dep_done hd j hw)), fun d hn => by
      unfold Act.eval
      simp [Array.getD_eq_getD_getElem?, hj.old d hn]⟩
    have hil : i < l.length := by omega
    have hfd : l.getD i false = false := by
      simp only [List.getD, List.getElem?_eq_getElem hil] at hf ⊢
      simpa using hf
    have hod : slotAt ops i = o.dst := by unfold slotAt; rw [ho]; rfl
    have hup : (fun k => (l.set i true).getD k false) = upd (fun k => l.getD k false) i true := by
      funext k
      unfold upd
      by_cases hk : k = i
      · subst hk; simp [List.getD, hil]
      · rw [if_neg hk]; simp only [List.getD]; rw [List.getElem?_set_ne (fun e => hk e.symm)]
    have build : ∀ v w', C (upd (fun k => l.getD k false) i true) (upd f i v) w' → (∀ u, tab i = some u → v = u) → ∃ f', (l.set i true).length = ops.size ∧ StageI ops tab C a0 f' (l.set i true) (a.put o.dst v) w' := by
      intro v w' hC hv
      refine ⟨upd f i v, by simpa using hl, by rw [hup]; exact hC, ?_, ?_, by rw [put_size]; exact hj.size, ?_, ?_, ?_⟩
      · rw [hup]
        intro k x j hk hwt hdn
        by_cases hji : j = i
        · rw [hji]; exact upd_same _ _ _
        · rw [upd_other _ _ hji]
          by_cases hki : k = i
          · subst hki
            obtain rfl := Option.some.inj (ho.symm.trans hk)
            exact dep_done hd j hwt
          · rw [upd_other _ _ hki] at hdn
            exact hj.shut k x j hk hwt hdn
      · rw [← hj.defers]; cases o.dst <;> rfl
      · intro j d hsl hdn
        rw [put_get]
        by_cases hji : j = i
        · subst hji
          have hdd : o.dst = some d := by rw [← hod]; exact hsl
          rw [if_pos ⟨hdd, by rw [hj.size]; exact (okSlots_at hs hsl).1⟩, upd_same]
        · have hne : ¬ (o.dst = some d ∧ d < a.tmps.size) := fun h => hji (huniq j i d hsl (by rw [hod]; exact h.1))
          rw [if_neg hne, upd_other f v hji]
          refine hj.done j d hsl ?_
          simp only [List.getD] at hdn ⊢
          rwa [List.getElem?_set_ne (fun e => hji e.symm)] at hdn
      · intro j u ht hdn
        by_cases hji : j = i
        · subst hji; rw [upd_same]; exact hv u ht
        · rw [upd_other f v hji]
          refine hj.told j u ht ?_
          simp only [List.getD] at hdn ⊢
          rwa [List.getElem?_set_ne (fun e => hji e.symm)] at hdn
      · intro d hn
        rw [put_get]
        have hne : ¬ (o.dst = some d ∧ d < a.tmps.size) := fun h => by
          have h2 := hasSlot_of (ops := ops) (j := i) (d := d) (by rw [hod]; exact h.1)
          rw [hn] at h2; cases h2
        rw [if_neg hne]
        exact hj.old d hn
    cases ht : tab i with
    | some v =>
      refine Oper.wp_mono ?_ (quiet i o v _ f a w ho ht hfd hj.shut hj.world hsee)
      rintro a' w' ⟨rfl, hCw⟩
      exact build v w' (keep i v _ f w' ht hCw) (fun u hu => by rw [ht] at hu; exact Option.some.inj hu)
    | none =>
      refine Oper.wp_mono ?_ (turn i o _ f a w ho ht hfd hj.shut (fun j hw => dep_done hd j hw) hj.world hsee)
      rintro a' w' ⟨v, rfl, hC⟩
      exact build v w' hC (fun u hu => by rw [ht] at hu; cases hu)
  · rintro a w ⟨f, hl, hj⟩
    have hall : ∀ j, j < ops.size → (List.replicate ops.size true).getD j false = true := fun j h => by simp [List.getD, h]
    have e : (fun i => (List.replicate ops.size true).getD i false) = fun i => decide (i < ops.size) := by
      funext i
      by_cases h : i < ops.size
      · simp [List.getD, h]
      · simp [List.getD, h]
    have hC := hj.world
    rw [e] at hC
    have h := fin f w hC (fun j u h1 h2 => hj.told j u h2 (hall j h1))
    have ea : putAll ops f (List.range ops.size) a0 = a := by
      have e1 : (putAll ops f (List.range ops.size) a0).tmps = a.tmps := by
        apply Array.ext_getElem?
        intro d
        by_cases hd : d < a0.tmps.size
        · rw [putAll_get f huniq _ _ d hd]
          cases hfd : (List.range ops.size).find? (fun j => slotAt ops j == some d) with
          | some j =>
            have h1 : slotAt ops j = some d := by simpa using List.find?_some hfd
            exact (hj.done j d h1 (hall j (slotAt_lt h1))).symm
          | none =>
            refine (hj.old d ?_).symm
            cases hh : hasSlot ops d with
            | false => rfl
            | true =>
              obtain ⟨j, h1, h2⟩ := List.any_eq_true.1 hh
              have := List.find?_eq_none.1 hfd j h1
              exact absurd h2 this
        · rw [Array.getElem?_eq_none (by rw [putAll_size]; omega), Array.getElem?_eq_none (by rw [hj.size]; omega)]
      have e2 : (putAll ops f (List.range ops.size) a0).defers = a.defers := by rw [putAll_defers, hj.defers]
      cases hp : putAll ops f (List.range ops.size) a0
      rw [hp] at e1 e2
      cases a
      simp only at e1 e2
      rw [e1, e2]
    rw [← ea]
    exact h

/-- A call of a function whose contract leaves the class. -/
theorem quiet_call {C : World → Prop} {ρ : Operand → Value} {o : Oper} {w : World} {v : Value} (f : FuncId) (A : List Operand) (T : Array TypeId) (args : Array Value) (ho : o.op = .call { callee := .value (.func f), args := A.toArray, argTypes := T }) (hρ : ρ (.func f) = .func (.func f) #[] #[]) (hA : (A.map ρ).toArray = args) (hf : (callFunc f args).run P w = .ok (.enter f args) w)
    (h : Calls P f args w fun e w'' => e = .returned v ∧ C w'') : Oper.quietUpon P C w v ((execOp ρ o).run P w) := by
  have e : (execOp ρ o).run P w = .ok (.enter f args) w := by
    subst hA
    simp [execOp, ho, go_sem, hρ, hf]
  rw [e]
  exact ⟨rfl, h⟩
/-- A row of one made, as one operation. -/
theorem op_row1 {w w' : World} {o : Oper} {a : Act} {K : Act → World → Prop} (t : TypeId) (x : Operand) (u v : Value) (ho : o.op = .buildSlice t 1 #[(0, x)]) (hx : a.eval x = u) (hr : (Instr.buildSlice t 1 #[(0, u)]).run P w = .ok v w') (h : K (a.put o.dst v) w') : o.wp P a w K Q := by
  refine op_value (w' := w') v ?_ h
  unfold execOp
  simp only [ho, List.map_toArray, List.map_cons, List.map_nil, hx, Sem.run_bind, hr, Result.andThen_ok, Sem.run_pure]
/-- The frame behind all operations, by their slots. -/
def putL : List (Option Tmp) → (Nat → Value) → Nat → Act → Act
  | [], _, _, a => a
  | t :: l, f, i, a => putL l f (i + 1) (a.put t (f i))
theorem putAll_putL (f : Nat → Value) : ∀ (n k : Nat) (a : Act), putAll ops f (List.range' k n) a = putL ((List.range' k n).map (slotAt ops)) f k a
  | 0, k, a => rfl
  | n + 1, k, a => by
    rw [List.range'_succ, List.map_cons]
    exact putAll_putL f n (k + 1) (a.put (slotAt ops k) (f k))
/-- Each operation that has a value looks at slots of such ones that it waits for, or at slots of none. -/
def readsOk (ops : Array Oper) (vals : List (Option Value)) : Bool :=
  (List.range ops.size).all fun i => !(vals.getD i none).isSome || ((ops[i]?).map fun o => o.op.operands.all fun x => match x with
    | .tmp d => !hasSlot ops d || (List.range ops.size).any fun j => waitsFor o j && (slotAt ops j == some d) && (vals.getD j none).isSome
    | _ => true).getD true

/-- The same, those that only read by one frame that has all their values. -/
theorem region_frame {id : Nat} {a0 : Act} {w0 : World} (slots : List (Option Tmp)) (hslots : (List.range' 0 ops.size).map (slotAt ops) = slots) (vals : List (Option Value)) (C : (Nat → Bool) → (Nat → Value) → World → Prop)
    (hm : P.follows .mixedOrders = true) (hg : ops.all (fun o => o.guard.isNone) = true) (ha : ahead ops = true) (hs : okSlots ops a0.tmps.size = true) (hr : readsOk ops vals = true) (hsel : Region.noSelect ops = true)
    (h0 : ∀ f, C (fun _ => false) f w0.drew)
    (keep : ∀ i v d f w, vals.getD i none = some v → C d f w → C (upd d i true) (upd f i v) w)
    (quiet : ∀ ρ : Operand → Value, (∀ c, ρ (.const c) = c) ∧ (∀ h, ρ (.func h) = .func (.func h) #[] #[]) → (∀ j d u, slotAt ops j = some d → vals.getD j none = some u → ρ (.tmp d) = u) → (∀ d, hasSlot ops d = false → ρ (.tmp d) = a0.eval (.tmp d)) →
      ∀ i o v d f w, ops[i]? = some o → vals.getD i none = some v → d i = false → Shut ops d → C d f w → Oper.quietUpon P (C d f) w v ((execOp ρ o).run P w))
    (turn : ∀ i o d f a w, ops[i]? = some o → vals.getD i none = none → d i = false → Shut ops d → (∀ j, waitsFor o j = true → d j = true) → C d f w → Sees ops (fun i => vals.getD i none) f a0 a o → o.wp P a w (fun a' w' => ∃ v, a' = a.put o.dst v ∧ C (upd d i true) (upd f i v) w') Q)
    (fin : ∀ f w, C (fun i => decide (i < ops.size)) f w → (∀ j u, j < ops.size → vals.getD j none = some u → f j = u) → Q .normal (putL slots f 0 a0) w) :
    (Code.region id ops true).wp P Q a0 w0 := by
  have huniq : ∀ i j d, slotAt ops i = some d → slotAt ops j = some d → i = j := by
    intro i j d hi hj
    by_cases e : i = j
    · exact e
    · exact absurd hj ((okSlots_at hs hi).2 j (fun h => e h.symm))
  obtain ⟨az, haz⟩ : ∃ az, az = putAll ops (fun i => (vals.getD i none).getD undef) (List.range ops.size) a0 := ⟨_, rfl⟩
  have z1 : ∀ j d u, slotAt ops j = some d → vals.getD j none = some u → az.eval (.tmp d) = u := by
    intro j d u hsl hv
    refine eval_at ?_
    rw [haz, putAll_get _ huniq _ _ d (okSlots_at hs hsl).1]
    cases h : (List.range ops.size).find? (fun j => slotAt ops j == some d) with
    | none =>
      have := List.find?_eq_none.1 h j (by simpa using slotAt_lt hsl)
      exact absurd (by simp [hsl]) this
    | some k =>
      have h1 : slotAt ops k = some d := by simpa using List.find?_some h
      obtain rfl := huniq k j d h1 hsl
      show some ((vals.getD k none).getD undef) = some u
      rw [hv]; rfl
  have z2 : ∀ d, hasSlot ops d = false → az.eval (.tmp d) = a0.eval (.tmp d) := by
    intro d hn
    have e : az.tmps[d]? = a0.tmps[d]? := by
      by_cases hd : d < a0.tmps.size
      · rw [haz, putAll_get _ huniq _ _ d hd]
        cases h : (List.range ops.size).find? (fun j => slotAt ops j == some d) with
        | none => rfl
        | some k =>
          have h1 : slotAt ops k = some d := by simpa using List.find?_some h
          rw [hasSlot_of h1] at hn; cases hn
      · rw [Array.getElem?_eq_none (by rw [haz, putAll_size]; omega), Array.getElem?_eq_none (by omega)]
    unfold Act.eval
    simp [Array.getD_eq_getD_getElem?, e]
  refine region_stage hm hg ha hs (fun i => vals.getD i none) C h0 keep ?_ turn (fun f w h1 h2 => by
    rw [List.range_eq_range', putAll_putL, hslots]
    exact fin f w h1 h2)
  intro i o v d f a w ho ht hd hsh hC hsee
  have hcong : execOp a.eval o = execOp az.eval o := by
    refine execOp_congr o (fun cs b => Region.noSelect_spec hsel i o cs b ho) (fun x hx => ?_)
    have h1 := List.all_eq_true.1 hr i (by simpa using (Array.getElem?_eq_some_iff.1 ho).1)
    rw [ht, ho] at h1
    simp only [Option.isSome_some, Bool.not_true, Bool.false_or, Option.map_some, Option.getD_some, Array.all_eq_true'] at h1
    have h2 := h1 x hx
    cases x with
    | tmp t =>
      simp only [Bool.or_eq_true, Bool.not_eq_true'] at h2
      rcases h2 with h2 | h2
      · rw [z2 t h2]; exact hsee.old t h2
      · obtain ⟨j, _, hj⟩ := List.any_eq_true.1 h2
        simp only [Bool.and_eq_true, beq_iff_eq] at hj
        obtain ⟨⟨hj1, hj2⟩, hj3⟩ := hj
        obtain ⟨u, hu⟩ := Option.isSome_iff_exists.1 hj3
        rw [z1 j t u hj2 hu]
        exact hsee.tab j t u hj1 hj2 hu
    | const c => rfl
    | global g => rfl
    | func g => rfl
  refine Oper.wp_of_quiet (C := C d f) (K := fun a' => a' = a.put o.dst v) hC (fun a' w' hw hk => ⟨hk, hw⟩) ⟨v, fun w hw => ?_, rfl⟩
  have h := quiet az.eval ⟨fun c => rfl, fun h => rfl⟩ z1 z2 i o v d f w ho ht hd hsh hw
  unfold Oper.quietAt
  rw [hcong]
  exact h
end
end Go.Proofs.YtmlladpmecclbaaDoor
/- A region that draws its order: operations that only read (or call what only makes new memory), each with one value, and a chain of others, one behind the other, that turn memory. -/
namespace Go.Proofs.YtmlladpmecclbaaDoor
open Go.RowKit

section
variable {P : Program} {ops : Array Oper} {Q : Exit → Act → World → Prop}

def waits (ops : Array Oper) (i j : Nat) : Bool := ((ops[i]?).map fun o => waitsFor o j).getD false
theorem waits_of {i j : Nat} {o : Oper} (ho : ops[i]? = some o) : waits ops i j = waitsFor o j := by unfold waits; rw [ho]; rfl

/-- Each one waits only for what is ahead in the list, looks only at slots of those it waits for, or of those that wait for it. -/
def slotsOk (ops : Array Oper) (i : Nat) (o : Oper) : Bool :=
  (o.op.operands.all fun x => match x with
    | .tmp d => (List.range ops.size).all fun j => !(slotAt ops j == some d) || waitsFor o j || waits ops j i
    | _ => true) &&
  (match o.guard with | some (g, _) => waitsFor o g && (slotAt ops g).isSome | none => true)
def topoOk (ops : Array Oper) : List Nat → List Nat → Bool
  | _, [] => true
  | pre, i :: l => !pre.contains i && ((ops[i]?).map fun o => (o.after.all fun e => !Region.binds .any e || pre.contains e.on) && slotsOk ops i o).getD false && topoOk ops (pre ++ [i]) l
def ordOf : List (List Nat × Nat) → List Nat → List Nat
  | [], tl => tl
  | (rs, t) :: ph, tl => rs ++ t :: ordOf ph tl
/-- Behind a turn all wait for it, or for one that does. -/
def lateOk (ops : Array Oper) : List (List Nat × Nat) → List Nat → Bool
  | [], _ => true
  | (_, t) :: ph, tl => (ordOf ph tl).all (fun i => (t :: ordOf ph tl).any fun j => waits ops i j) && lateOk ops ph tl
def chainOk (ops : Array Oper) (sz : Nat) (ph : List (List Nat × Nat)) (tl : List Nat) : Bool :=
  okSlots ops sz && ahead ops && Region.noSelect ops && topoOk ops [] (ordOf ph tl) && ((List.range ops.size).all fun i => (ordOf ph tl).contains i) && lateOk ops ph tl

abbrev Grow (w w' : World) : Prop := But (fun _ => False) w w'
/-- One value each, whatever world of the class it is. -/
def wpStill (P : Program) (ops : Array Oper) {ι : Type} (W : ι → World) (Qa : Act → Prop) : List Nat → Act → Prop
  | [], a => Qa a
  | i :: rest, a => match ops[i]? with
    | none => False
    | some o => if Region.wanted o (yielded ops a.tmps) then ∃ v, (∀ x, Oper.quietUpon P (Grow (W x)) (W x) v ((execOp a.eval o).run P (W x))) ∧ wpStill P ops W Qa rest (a.put o.dst v) else wpStill P ops W Qa rest (a.put o.dst undef)
/-- One that turns memory: K' is what holds behind it, S' what those may lean on that come behind it. -/
def TurnAt (P : Program) (ops : Array Oper) (t : Nat) (full : Bool) (S K : World → Prop) (next : (World → Prop) → (World → Prop) → Act → Prop) (a : Act) : Prop :=
  match ops[t]? with
  | none => False
  | some o => if Region.wanted o (yielded ops a.tmps) then ∃ K' S' : Value → World → Prop, (∀ v w w', K' v w → Grow w w' → K' v w') ∧ (∀ v w, K' v w → S' v w) ∧ (full = true ∨ ∀ v w, S' v w → S w) ∧
      (∀ w, K w → o.wp P a w (fun a'' w' => ∃ v, a'' = a.put o.dst v ∧ K' v w') (fun _ _ _ => False)) ∧ ∀ v, (∃ w, K' v w) → next (S' v) (K' v) (a.put o.dst v)
    else next S K (a.put o.dst undef)
def isFull (ops : Array Oper) (t : Nat) (prs : List Nat) : Bool := prs.all fun k => waits ops t k || (List.range ops.size).any fun m => waits ops t m && waits ops m k
def Chain (P : Program) (ops : Array Oper) (Q : Exit → Act → World → Prop) : List (List Nat × Nat) → List Nat → List Nat → (World → Prop) → (World → Prop) → Act → Prop
  | [], tl, _, S, K, a => ∀ (ι : Type) [Nonempty ι] (W : ι → World), (∀ x, S (W x)) → wpStill P ops W (fun a' => ∀ w, K w → Q .normal a' w) tl a
  | (rs, t) :: ph, tl, prs, S, K, a => ∀ (ι : Type) [Nonempty ι] (W : ι → World), (∀ x, S (W x)) →
      wpStill P ops W (TurnAt P ops t (isFull ops t (prs ++ rs)) S K (fun S' K' => Chain P ops Q ph tl (prs ++ rs) S' K')) rs a

/-- What an operation sees of the values of those it waits for. -/
def rho (ops : Array Oper) (a0 : Act) (V : Nat → Value) (o : Oper) : Operand → Value
  | .tmp d => match (List.range ops.size).find? (fun j => waitsFor o j && slotAt ops j == some d) with
    | some j => V j
    | none => a0.eval (.tmp d)
  | x => a0.eval x
def boolOf : Value → Option Bool
  | .bool b => some b
  | _ => none
structure Holds1 (P : Program) (ops : Array Oper) (a0 : Act) (V : Nat → Value) (S : World → Prop) (k : Nat) (o : Oper) : Prop where
  yes : Region.wanted o (fun g => boolOf (V g)) = true → ∀ w, S w → Oper.quietUpon P (Grow w) w (V k) ((execOp (rho ops a0 V o) o).run P w)
  no : Region.wanted o (fun g => boolOf (V g)) = false → V k = undef

theorem wanted_congr {o : Oper} {y y' : Nat → Option Bool} (h : ∀ g b, o.guard = some (g, b) → y g = y' g) : Region.wanted o y = Region.wanted o y' := by
  unfold Region.wanted
  cases hg : o.guard with
  | none => rfl
  | some p => obtain ⟨g, b⟩ := p; simp only [h g b hg]

/-- An act in whose slots the values of those that it waits for lie, and that is otherwise as it was. -/
structure SeesV (ops : Array Oper) (a0 a : Act) (V : Nat → Value) (i : Nat) (o : Oper) : Prop where
  dep : ∀ j d, waitsFor o j = true → slotAt ops j = some d → a.tmps[d]? = some (V j)
  ant : ∀ j d, waits ops j i = true → slotAt ops j = some d → waitsFor o j = false → a.tmps[d]? = a0.tmps[d]?
  old : ∀ d, hasSlot ops d = false → a.tmps[d]? = a0.tmps[d]?

theorem SeesV.exec {a0 a : Act} {V : Nat → Value} {i : Nat} {o : Oper} (h : SeesV ops a0 a V i o) (ho : ops[i]? = some o) (hsel : Region.noSelect ops = true) (hok : slotsOk ops i o = true) : execOp a.eval o = execOp (rho ops a0 V o) o := by
  refine execOp_congr o (fun cs b => Region.noSelect_spec hsel i o cs b ho) (fun x hx => ?_)
  simp only [slotsOk, Bool.and_eq_true, Array.all_eq_true'] at hok
  have h1 := hok.1 x hx
  cases x with
  | tmp d =>
    show a.eval (.tmp d) = match (List.range ops.size).find? (fun j => waitsFor o j && slotAt ops j == some d) with | some j => V j | none => a0.eval (.tmp d)
    cases hf : (List.range ops.size).find? (fun j => waitsFor o j && slotAt ops j == some d) with
    | some j =>
      have := List.find?_some hf
      simp only [Bool.and_eq_true, beq_iff_eq] at this
      exact eval_at (h.dep j d this.1 this.2)
    | none =>
      have hno := List.find?_eq_none.1 hf
      have he : a.tmps[d]? = a0.tmps[d]? := by
        cases hh : hasSlot ops d with
        | false => exact h.old d hh
        | true =>
          obtain ⟨j, hj1, hj2⟩ := List.any_eq_true.1 hh
          have hsl : slotAt ops j = some d := by simpa using hj2
          have hw : waitsFor o j = false := by
            cases hw : waitsFor o j with
            | false => rfl
            | true => exact absurd (by simp [hw, hsl]) (hno j hj1)
          have h2 := List.all_eq_true.1 h1 j hj1
          simp only [hsl, hw, beq_self_eq_true, Bool.not_true, Bool.false_or] at h2
          exact h.ant j d h2 hsl hw
      unfold Act.eval
      simp [Array.getD_eq_getD_getElem?, he]
  | const c => rfl
  | global g => rfl
  | func g => rfl
theorem SeesV.wanted {a0 a : Act} {V : Nat → Value} {i : Nat} {o : Oper} (h : SeesV ops a0 a V i o) (hok : slotsOk ops i o = true) : Region.wanted o (yielded ops a.tmps) = Region.wanted o (fun g => boolOf (V g)) := by
  refine wanted_congr fun g b hg => ?_
  simp only [slotsOk, hg, Bool.and_eq_true] at hok
  obtain ⟨d, hd⟩ := Option.isSome_iff_exists.1 hok.2.2
  have h1 := h.dep g d hok.2.1 hd
  have hd' : (ops[g]?).bind (·.dst) = some d := hd
  unfold yielded
  rw [hd']
  simp only [Option.bind_some, h1]
  cases V g <;> rfl

theorem putAll_append (f : Nat → Value) : ∀ (l m : List Nat) (a : Act), putAll ops f (l ++ m) a = putAll ops f m (putAll ops f l a)
  | [], _, _ => rfl
  | _ :: l, m, _ => putAll_append f l m _
theorem putAll_congr {f g : Nat → Value} : ∀ (l : List Nat) (a : Act), (∀ i ∈ l, f i = g i) → putAll ops f l a = putAll ops g l a
  | [], _, _ => rfl
  | i :: l, a, h => by
    show putAll ops f l (a.put (slotAt ops i) (f i)) = putAll ops g l (a.put (slotAt ops i) (g i))
    rw [h i List.mem_cons_self]
    exact putAll_congr l _ (fun j hj => h j (List.mem_cons_of_mem _ hj))
theorem rho_congr {a0 : Act} {V V' : Nat → Value} {o : Oper} (h : ∀ j, waitsFor o j = true → V j = V' j) : rho ops a0 V o = rho ops a0 V' o := by
  funext x
  cases x with
  | tmp d =>
    show (match (List.range ops.size).find? (fun j => waitsFor o j && slotAt ops j == some d) with | some j => V j | none => a0.eval (.tmp d)) = (match (List.range ops.size).find? (fun j => waitsFor o j && slotAt ops j == some d) with | some j => V' j | none => a0.eval (.tmp d))
    cases hf : (List.range ops.size).find? (fun j => waitsFor o j && slotAt ops j == some d) with
    | none => rfl
    | some j =>
      have := List.find?_some hf
      simp only [Bool.and_eq_true] at this
      exact h j this.1
  | const c => rfl
  | global g => rfl
  | func g => rfl
theorem Holds1.congr {a0 : Act} {V V' : Nat → Value} {S : World → Prop} {k : Nat} {o : Oper} (h : Holds1 P ops a0 V S k o) (hk : V k = V' k) (hw : ∀ j, waitsFor o j = true → V j = V' j) (hg : ∀ g b, o.guard = some (g, b) → V g = V' g) : Holds1 P ops a0 V' S k o := by
  have e : Region.wanted o (fun g => boolOf (V g)) = Region.wanted o (fun g => boolOf (V' g)) := wanted_congr fun g b h => by rw [hg g b h]
  exact ⟨fun h1 w hS => by rw [← rho_congr hw, ← hk]; exact h.yes (e.trans h1) w hS, fun h1 => by rw [← hk]; exact h.no (e.trans h1)⟩

theorem topoOk_mem : ∀ {l pre : List Nat}, topoOk ops pre l = true → ∀ i ∈ l, i ∉ pre
  | [], _, _, i, hi => by cases hi
  | k :: l, pre, h, i, hi => by
    simp only [topoOk, Bool.and_eq_true, Bool.not_eq_true'] at h
    rcases List.mem_cons.1 hi with rfl | hi
    · simpa using h.1.1
    · exact fun hp => topoOk_mem h.2 i hi (List.mem_append_left _ hp)
theorem topoOk_cons {i : Nat} {l pre : List Nat} (h : topoOk ops pre (i :: l) = true) : i ∉ pre ∧ topoOk ops (pre ++ [i]) l = true ∧ ∃ o, ops[i]? = some o ∧ (∀ j, waitsFor o j = true → j ∈ pre) ∧ slotsOk ops i o = true := by
  simp only [topoOk, Bool.and_eq_true, Bool.not_eq_true'] at h
  refine ⟨by simpa using h.1.1, h.2, ?_⟩
  cases ho : ops[i]? with
  | none => rw [ho] at h; simp at h
  | some o =>
    rw [ho] at h
    simp only [Option.map_some, Option.getD_some, Bool.and_eq_true, Array.all_eq_true'] at h
    refine ⟨o, rfl, fun j hj => ?_, h.1.2.2⟩
    unfold waitsFor at hj
    rw [Array.any_eq_true'] at hj
    obtain ⟨e, he, he2⟩ := hj
    simp only [Bool.and_eq_true, beq_iff_eq] at he2
    have := h.1.2.1 e he
    rw [he2.1] at this
    rw [← he2.2]
    simpa using this
theorem topoOk_drop : ∀ {m l pre : List Nat}, topoOk ops pre (m ++ l) = true → topoOk ops (pre ++ m) l = true
  | [], _, _, h => by simpa using h
  | i :: m, l, pre, h => by
    have := topoOk_drop (topoOk_cons h).2.1
    simpa using this
theorem topoOk_lt : ∀ {l pre : List Nat}, topoOk ops pre l = true → ∀ i ∈ l, ∃ (o : Oper) (pre' : List Nat), ops[i]? = some o ∧ (∀ j, waitsFor o j = true → j ∈ pre') ∧ slotsOk ops i o = true ∧ i ∉ pre'
  | [], _, _, i, hi => by cases hi
  | k :: l, pre, h, i, hi => by
    obtain ⟨h1, h2, o, h3, h4, h5⟩ := topoOk_cons h
    rcases List.mem_cons.1 hi with rfl | hi
    · exact ⟨o, pre, h3, h4, h5, h1⟩
    · exact topoOk_lt h2 i hi

theorem okSlots_uniq {sz : Nat} (hs : okSlots ops sz = true) : ∀ i j d, slotAt ops i = some d → slotAt ops j = some d → i = j := by
  intro i j d hi hj
  by_cases e : i = j
  · exact e
  · exact absurd hj ((okSlots_at hs hi).2 j (fun h => e h.symm))

/-- The canonical act at a place of the list sees what an operation looks at. -/
theorem putAll_sees {a0 : Act} {V : Nat → Value} {don : List Nat} {i : Nat} {o : Oper} (hs : okSlots ops a0.tmps.size = true) (hw : ∀ j, waitsFor o j = true → j ∈ don) (hn : ∀ j, waits ops j i = true → j ∉ don) : SeesV ops a0 (putAll ops V don a0) V i o := by
  have hu := okSlots_uniq hs
  refine ⟨fun j d h1 h2 => ?_, fun j d h1 h2 _ => ?_, fun d hd => ?_⟩
  · rw [putAll_get V hu don a0 d (okSlots_at hs h2).1]
    cases hf : don.find? (fun j => slotAt ops j == some d) with
    | none => exact absurd (by simp [h2]) (List.find?_eq_none.1 hf j (hw j h1))
    | some k =>
      have : slotAt ops k = some d := by simpa using List.find?_some hf
      rw [hu k j d this h2]
  · rw [putAll_get V hu don a0 d (okSlots_at hs h2).1]
    cases hf : don.find? (fun j => slotAt ops j == some d) with
    | none => rfl
    | some k =>
      have : slotAt ops k = some d := by simpa using List.find?_some hf
      exact absurd (List.mem_of_find?_eq_some hf) (by rw [hu k j d this h2]; exact hn j h1)
  · by_cases hsz : d < a0.tmps.size
    · rw [putAll_get V hu don a0 d hsz]
      cases hf : don.find? (fun j => slotAt ops j == some d) with
      | none => rfl
      | some k =>
        have : slotAt ops k = some d := by simpa using List.find?_some hf
        rw [hasSlot_of this] at hd; cases hd
    · rw [Array.getElem?_eq_none (by rw [putAll_size]; omega), Array.getElem?_eq_none (by omega)]

/-- None of the prefix waits for what is behind it. -/
def Pre (ops : Array Oper) (don l : List Nat) : Prop := ∀ k ∈ don, ∀ j ∈ l, waits ops k j = false
theorem topoOk_pre : ∀ {m l pre : List Nat}, Pre ops pre (m ++ l) → topoOk ops pre (m ++ l) = true → Pre ops (pre ++ m) l
  | [], l, pre, hp, _ => by simpa using hp
  | i :: m, l, pre, hp, h => by
    obtain ⟨h1, h2, o, h3, h4, h5⟩ := topoOk_cons h
    have hp' : Pre ops (pre ++ [i]) (m ++ l) := by
      intro k hk j hj
      rcases List.mem_append.1 hk with hk | hk
      · exact hp k hk j (List.mem_cons_of_mem _ hj)
      · obtain rfl : k = i := by simpa using hk
        rw [waits_of h3]
        cases hw : waitsFor o j with
        | false => rfl
        | true => exact absurd (List.mem_append_left [k] (h4 j hw)) (topoOk_mem h2 j hj)
    have := topoOk_pre (m := m) hp' h2
    simpa using this

theorem still_out {a0 : Act} (hs : okSlots ops a0.tmps.size = true) (hsel : Region.noSelect ops = true) {S : World → Prop} {Qa : Act → Prop} {l : List Nat} : ∀ (rs don : List Nat) (V : Nat → Value), topoOk ops don (rs ++ l) = true → Pre ops don (rs ++ l) →
    wpStill P ops (fun x : {w // S w} => x.1) Qa rs (putAll ops V don a0) → ∃ V', (∀ i, i ∉ rs → V' i = V i) ∧ (∀ k ∈ rs, ∀ o, ops[k]? = some o → Holds1 P ops a0 V' S k o) ∧ Qa (putAll ops V' (don ++ rs) a0)
  | [], don, V, _, _, h => ⟨V, fun _ _ => rfl, (fun k hk => absurd hk List.not_mem_nil), by rw [List.append_nil]; exact h⟩
  | i :: rs, don, V, ht, hp, h => by
    obtain ⟨h1, h2, o, ho, h4, h5⟩ := topoOk_cons ht
    have hp' : Pre ops (don ++ [i]) (rs ++ l) := topoOk_pre (m := [i]) hp ht
    have hsee : SeesV ops a0 (putAll ops V don a0) V i o := putAll_sees hs h4 (fun j hj hd => by
      have := hp j hd i List.mem_cons_self
      rw [this] at hj; cases hj)
    have hslot : slotAt ops i = o.dst := by unfold slotAt; rw [ho]; rfl
    have key : ∀ v, wpStill P ops (fun x : {w // S w} => x.1) Qa rs ((putAll ops V don a0).put o.dst v) → Holds1 P ops a0 (upd V i v) S i o → ∃ V', (∀ j, j ∉ i :: rs → V' j = V j) ∧ (∀ k ∈ i :: rs, ∀ o, ops[k]? = some o → Holds1 P ops a0 V' S k o) ∧ Qa (putAll ops V' (don ++ i :: rs) a0) := by
      intro v hst hh
      have e : (putAll ops V don a0).put o.dst v = putAll ops (upd V i v) (don ++ [i]) a0 := by
        rw [putAll_append, putAll_congr (f := upd V i v) (g := V) don a0 (fun j hj => upd_other _ _ (fun e => h1 (e ▸ hj)))]
        show _ = (putAll ops V don a0).put (slotAt ops i) (upd V i v i)
        rw [upd_same, hslot]
      rw [e] at hst
      obtain ⟨V', g1, g2, g3⟩ := still_out hs hsel rs (don ++ [i]) (upd V i v) h2 hp' hst
      have hni : i ∉ rs := fun hi => topoOk_mem h2 i (List.mem_append_left _ hi) (by simp)
      refine ⟨V', fun j hj => ?_, fun k hk x hx => ?_, by simpa using g3⟩
      · rw [g1 j (fun h => hj (List.mem_cons_of_mem _ h)), upd_other _ _ (fun e => hj (by rw [e]; exact List.mem_cons_self))]
      · rcases List.mem_cons.1 hk with rfl | hk
        · obtain rfl := Option.some.inj (ho.symm.trans hx)
          have agree : ∀ j, j ∈ don → upd V k v j = V' j := fun j hj => (g1 j (fun hr => topoOk_mem h2 j (List.mem_append_left _ hr) (List.mem_append_left _ hj))).symm
          refine hh.congr (g1 k hni).symm (fun j hj => agree j (h4 j hj)) (fun g b hg => agree g (h4 g ?_))
          simp only [slotsOk, hg, Bool.and_eq_true] at h5
          exact h5.2.1
        · exact g2 k hk x hx
    unfold wpStill at h
    rw [ho] at h
    simp only at h
    have hne : ∀ v j, waitsFor o j = true → V j = upd V i v j := fun v j hj => (upd_other _ _ (fun e => h1 (by rw [← e]; exact h4 j hj))).symm
    have hge : ∀ v g b, o.guard = some (g, b) → V g = upd V i v g := fun v g b hg => hne v g (by simp only [slotsOk, hg, Bool.and_eq_true] at h5; exact h5.2.1)
    by_cases hw : Region.wanted o (yielded ops (putAll ops V don a0).tmps) = true
    · rw [if_pos hw] at h
      obtain ⟨v, hq, hst⟩ := h
      refine key v hst ⟨fun _ w hS => ?_, fun hno => ?_⟩
      · rw [upd_same, ← rho_congr (hne v), ← hsee.exec ho hsel h5]
        exact hq ⟨w, hS⟩
      · exfalso
        rw [hsee.wanted h5, wanted_congr (y' := fun g => boolOf (upd V i v g)) (fun g b hg => by rw [hge v g b hg]), hno] at hw
        cases hw
    · rw [if_neg hw] at h
      refine key undef h ⟨fun hyes => ?_, fun _ => upd_same _ _ _⟩
      exfalso
      rw [hsee.wanted h5, wanted_congr (y' := fun g => boolOf (upd V i undef g)) (fun g b hg => by rw [hge undef g b hg]), hyes] at hw
      exact hw rfl

theorem wpAny_both (J : List Bool → Act → World → Prop)
    (step : ∀ l a w i o, J l a w → l.length = ops.size → i ∈ Region.ready .any ops l.toArray → ops[i]? = some o → (Region.wanted o (yielded ops a.tmps) = true ∧ o.wp P a w (J (l.set i true)) Q) ∨ (Region.wanted o (yielded ops a.tmps) = false ∧ J (l.set i true) (a.put o.dst undef) w))
    (fin : ∀ l a w, J l a w → l.length = ops.size → Region.ready .any ops l.toArray = [] → Q .normal a w) :
    ∀ (fuel : Nat) (l : List Bool) (a : Act) (w : World), l.length = ops.size → l.count false ≤ fuel → J l a w → wpAny P .any ops Q fuel l.toArray a w := by
  intro fuel
  induction fuel with
  | zero =>
    intro l a w hl hc hj
    have hr := ready_none (md := .any) hl (by omega)
    exact ⟨hr, fin l a w hj hl hr⟩
  | succ fuel ih =>
    intro l a w hl hc hj
    refine ⟨fun hr => fin l a w hj hl hr, fun i hi => ?_⟩
    obtain ⟨hlt, hf⟩ := ready_open hi
    have hlt' : i < l.length := by omega
    have ho : ops[i]? = some ops[i] := by simp [hlt]
    have e : l.toArray.setIfInBounds i true = (l.set i true).toArray := by simp
    have hc' : (l.set i true).count false ≤ fuel := by
      have := count_listed hlt' hf
      omega
    rw [e]
    unfold wpOp
    rw [ho]
    rcases step l a w i _ hj hl hi ho with ⟨hw, hst⟩ | ⟨hw, hst⟩
    · simp only [hw, if_true]
      exact .inl (Oper.wp_mono (fun a' w' hj' => ih _ a' w' (by simp [hl]) hc' hj') hst)
    · simp only [hw]
      exact ih _ _ _ (by simp [hl]) hc' hst

theorem wp_still {o : Oper} {a : Act} {w : World} {v : Value} {K : Act → World → Prop} {r : Result Next} (h : Oper.quietUpon P (Grow w) w v r) (hK : ∀ w', Grow w w' → K (a.put o.dst v) w') : o.upon P a K Q r := by
  cases r with
  | halt x w' => cases h
  | ok n w' =>
    cases n with
    | value u => obtain ⟨rfl, rfl⟩ := h; exact hK _ (But.refl _ _)
    | skip => obtain ⟨rfl, rfl⟩ := h; exact hK _ (But.refl _ _)
    | enter f args =>
      obtain ⟨rfl, h⟩ := h
      refine Calls.mono h ?_
      rintro e w'' ⟨rfl, hg⟩
      exact hK _ hg
    | _ => cases h
theorem put_eq {a b : Act} (hs : a.tmps.size = b.tmps.size) {d : Option Tmp} {u v : Value} (h : a.put d u = a.put d v) : b.put d u = b.put d v := by
  cases d with
  | none => rfl
  | some t =>
    have h1 : a.tmps.setIfInBounds t u = a.tmps.setIfInBounds t v := congrArg Act.tmps h
    show ({ b with tmps := b.tmps.setIfInBounds t u } : Act) = { b with tmps := b.tmps.setIfInBounds t v }
    by_cases ht : t < b.tmps.size
    · have h2 : (a.tmps.setIfInBounds t u)[t]? = (a.tmps.setIfInBounds t v)[t]? := by rw [h1]
      have ht' : t < a.tmps.size := by rw [hs]; exact ht
      simp [ht'] at h2
      rw [h2]
    · rw [Array.setIfInBounds_eq_of_size_le (Nat.le_of_not_lt ht), Array.setIfInBounds_eq_of_size_le (Nat.le_of_not_lt ht)]
theorem put_defer {a : Act} {o : Oper} {d : Deferred} {v : Value} : ({ a with defers := d :: a.defers }.put o.dst undef : Act) ≠ a.put o.dst v := by
  intro h
  have h1 : ({ a with defers := d :: a.defers }.put o.dst undef : Act).defers = (a.put o.dst v).defers := by rw [h]
  have h2 : ({ a with defers := d :: a.defers }.put o.dst undef : Act).defers = d :: a.defers := by cases o.dst <;> rfl
  have h3 : (a.put o.dst v).defers = a.defers := by cases o.dst <;> rfl
  rw [h2, h3] at h1
  exact absurd (congrArg List.length h1) (by simp)
theorem wp_transfer {o : Oper} {a ac : Act} {w : World} {K' : Value → World → Prop} (he : execOp a.eval o = execOp ac.eval o) (hs : ac.tmps.size = a.tmps.size)
    (h : o.wp P ac w (fun a'' w' => ∃ v, a'' = ac.put o.dst v ∧ K' v w') (fun _ _ _ => False)) : o.wp P a w (fun a'' w' => ∃ v, a'' = a.put o.dst v ∧ K' v w') Q := by
  unfold Oper.wp at *
  rw [he]
  generalize (execOp ac.eval o).run P w = r at *
  have key : ∀ v w', (∃ u, ac.put o.dst v = ac.put o.dst u ∧ K' u w') → ∃ u, a.put o.dst v = a.put o.dst u ∧ K' u w' := fun v w' ⟨u, h1, h2⟩ => ⟨u, put_eq hs h1, h2⟩
  cases r with
  | halt x w' => cases x <;> simp only [Oper.upon] at h
  | ok n w' =>
    cases n with
    | value u => exact key _ _ h
    | skip => exact key _ _ h
    | defer d => obtain ⟨v, h1, _⟩ := h; exact absurd h1 put_defer
    | enter f args =>
      refine Calls.mono h ?_
      intro e w'' he
      cases e with
      | returned v => exact key _ _ he
      | panicked c => exact he.elim
      | outgrown => exact absurd he (by simp [LetsOut])
    | row r2 as2 => exact Rows.mono h (fun v w'' he => key _ _ he)
    | _ => simp only [Oper.upon] at h

theorem don_closed : ∀ {don r pre : List Nat}, topoOk ops pre (don ++ r) = true → ∀ k ∈ don, ∀ o j, ops[k]? = some o → waitsFor o j = true → j ∈ pre ++ don
  | [], _, _, _, k, hk, _, _, _, _ => absurd hk List.not_mem_nil
  | i :: don, r, pre, h, k, hk, o, j, ho, hj => by
    obtain ⟨_, h2, x, hx, h4, _⟩ := topoOk_cons h
    rcases List.mem_cons.1 hk with rfl | hk
    · obtain rfl := Option.some.inj (hx.symm.trans ho)
      exact List.mem_append_left _ (h4 j hj)
    · have := don_closed h2 k hk o j ho hj
      simpa using this
structure CBase (P : Program) (ops : Array Oper) (a0 : Act) (S K : World → Prop) (V : Nat → Value) (prs don : List Nat) (l : List Bool) (a : Act) (w : World) : Prop where
  kw : K w
  kc : ∀ w w', K w → Grow w w' → K w'
  ks : ∀ w, K w → S w
  sub : ∀ i ∈ prs, i ∈ don
  rest : ∀ i, i ∉ don → l.getD i false = false
  turned : ∀ i, i ∈ don → i ∉ prs → l.getD i false = true
  shut : ∀ i o j, ops[i]? = some o → waitsFor o j = true → l.getD i false = true → l.getD j false = true
  done : ∀ j d, slotAt ops j = some d → l.getD j false = true → a.tmps[d]? = some (V j)
  opn : ∀ j d, slotAt ops j = some d → l.getD j false = false → a.tmps[d]? = a0.tmps[d]?
  old : ∀ d, hasSlot ops d = false → a.tmps[d]? = a0.tmps[d]?
  size : a.tmps.size = a0.tmps.size
  defers : a.defers = a0.defers
  claim : ∀ k ∈ prs, ∀ o, ops[k]? = some o → l.getD k false = false → Holds1 P ops a0 V S k o
def CInv (P : Program) (ops : Array Oper) (Q : Exit → Act → World → Prop) (a0 : Act) (ord tl : List Nat) (l : List Bool) (a : Act) (w : World) : Prop :=
  ∃ S K V prs don, CBase P ops a0 S K V prs don l a w ∧ ((don = ord ∧ ∀ w, K w → Q .normal (putAll ops V don a0) w) ∨
    ∃ t ph, don ++ t :: ordOf ph tl = ord ∧ ((ordOf ph tl).all (fun i => (t :: ordOf ph tl).any fun j => waits ops i j) = true) ∧ lateOk ops ph tl = true ∧
      TurnAt P ops t (isFull ops t prs) S K (fun S' K' => Chain P ops Q ph tl prs S' K') (putAll ops V don a0))
theorem CBase.on {a0 : Act} {S K : World → Prop} {V V' : Nat → Value} {prs don rs r : List Nat} {l : List Bool} {a : Act} {w : World} (h : CBase P ops a0 S K V prs don l a w) (ht : topoOk ops [] (don ++ (rs ++ r)) = true)
    (g1 : ∀ i, i ∉ rs → V' i = V i) (g2 : ∀ k ∈ rs, ∀ o, ops[k]? = some o → Holds1 P ops a0 V' S k o) : CBase P ops a0 S K V' (prs ++ rs) (don ++ rs) l a w := by
  have hdis : ∀ i ∈ don, i ∉ rs := fun i hi hr => topoOk_mem (topoOk_drop ht) i (List.mem_append_left _ hr) (by simpa using hi)
  have hv : ∀ i ∈ don, V i = V' i := fun i hi => (g1 i (hdis i hi)).symm
  refine ⟨h.kw, h.kc, h.ks, fun i hi => ?_, fun i hi => h.rest i (fun hd => hi (List.mem_append_left _ hd)), fun i hi hn => ?_, h.shut, fun j d hs hd => ?_, h.opn, h.old, h.size, h.defers, fun k hk o ho hd => ?_⟩
  · rcases List.mem_append.1 hi with hi | hi
    · exact List.mem_append_left _ (h.sub i hi)
    · exact List.mem_append_right _ hi
  · have hn1 : i ∉ prs := fun hp => hn (List.mem_append_left _ hp)
    have hn2 : i ∉ rs := fun hp => hn (List.mem_append_right _ hp)
    rcases List.mem_append.1 hi with hi | hi
    · exact h.turned i hi hn1
    · exact absurd hi hn2
  · have hj : j ∈ don := by
      by_cases hj : j ∈ don
      · exact hj
      · rw [h.rest j hj] at hd; cases hd
    rw [← hv j hj]
    exact h.done j d hs hd
  · rcases List.mem_append.1 hk with hk | hk
    · have hkd := h.sub k hk
      have hcl := fun j hj => don_closed ht k hkd o j ho hj
      refine (h.claim k hk o ho hd).congr (hv k hkd) (fun j hj => hv j (by simpa using hcl j hj)) (fun g b hg => hv g ?_)
      obtain ⟨x, _, hx, _, h5, _⟩ := topoOk_lt ht k (List.mem_append_left _ hkd)
      obtain rfl := Option.some.inj (hx.symm.trans ho)
      simp only [slotsOk, hg, Bool.and_eq_true] at h5
      simpa using hcl g h5.2.1
    · exact g2 k hk o ho
theorem chain_enter {a0 : Act} (hs : okSlots ops a0.tmps.size = true) (hsel : Region.noSelect ops = true) {ord tl : List Nat} (htopo : topoOk ops [] ord = true) {ph : List (List Nat × Nat)} {S K : World → Prop} {V : Nat → Value} {prs don : List Nat} {l : List Bool} {a : Act} {w : World}
    (h : CBase P ops a0 S K V prs don l a w) (hord : don ++ ordOf ph tl = ord) (hl : lateOk ops ph tl = true) (hc : Chain P ops Q ph tl prs S K (putAll ops V don a0)) : CInv P ops Q a0 ord tl l a w := by
  have hne : Nonempty {w // S w} := ⟨⟨w, h.ks w h.kw⟩⟩
  have hpre0 : Pre ops [] ord := fun k hk => absurd hk List.not_mem_nil
  cases ph with
  | nil =>
    have hq := hc {w // S w} (fun x => x.1) (fun x => x.2)
    have e : don ++ (tl ++ []) = ord := by rw [List.append_nil]; exact hord
    have ht := htopo
    rw [← e] at ht hpre0
    obtain ⟨V', g1, g2, g3⟩ := still_out (l := []) hs hsel tl don V (by simpa using topoOk_drop ht) (by simpa using topoOk_pre (m := don) hpre0 ht) hq
    exact ⟨S, K, V', prs ++ tl, don ++ tl, h.on ht g1 g2, .inl ⟨hord, g3⟩⟩
  | cons p ph =>
    obtain ⟨rs, t⟩ := p
    have hq := hc {w // S w} (fun x => x.1) (fun x => x.2)
    have e : don ++ (rs ++ t :: ordOf ph tl) = ord := hord
    have ht := htopo
    rw [← e] at ht hpre0
    obtain ⟨V', g1, g2, g3⟩ := still_out (l := t :: ordOf ph tl) hs hsel rs don V (by simpa using topoOk_drop ht) (by simpa using topoOk_pre (m := don) hpre0 ht) hq
    simp only [lateOk, Bool.and_eq_true] at hl
    exact ⟨S, K, V', prs ++ rs, don ++ rs, h.on ht g1 g2, .inr ⟨t, ph, by rw [List.append_assoc]; exact e, hl.1, hl.2, g3⟩⟩
theorem getD_set {l : List Bool} {i : Nat} (hi : i < l.length) (k : Nat) : (l.set i true).getD k false = if k = i then true else l.getD k false := by
  by_cases hk : k = i
  · subst hk; simp [List.getD, hi]
  · rw [if_neg hk]; simp only [List.getD]; rw [List.getElem?_set_ne (fun e => hk e.symm)]
/-- One more is done. -/
theorem CBase.more {a0 : Act} {S K S' K' : World → Prop} {V V' : Nat → Value} {prs don don' : List Nat} {l : List Bool} {a : Act} {w w' : World} {i : Nat} {o : Oper} {v : Value} (hs : okSlots ops a0.tmps.size = true) (h : CBase P ops a0 S K V prs don l a w)
    (hi : i < l.length) (ho : ops[i]? = some o) (hdep : ∀ j, waitsFor o j = true → l.getD j false = true) (hV : V' i = v) (hVo : ∀ j, j ≠ i → V' j = V j) (hd1 : ∀ j ∈ don, j ∈ don') (hd2 : i ∈ don') (hd3 : ∀ j ∈ don', j ∈ don ∨ j = i)
    (kw : K' w') (kc : ∀ w w', K' w → Grow w w' → K' w') (ks : ∀ w, K' w → S' w) (claim : ∀ k ∈ prs, ∀ o, ops[k]? = some o → k ≠ i → l.getD k false = false → Holds1 P ops a0 V' S' k o) : CBase P ops a0 S' K' V' prs don' (l.set i true) (a.put o.dst v) w' := by
  have hslot : slotAt ops i = o.dst := by unfold slotAt; rw [ho]; rfl
  have hu := okSlots_uniq hs
  refine ⟨kw, kc, ks, fun k hk => hd1 k (h.sub k hk), fun k hk => ?_, fun k hk hn => ?_, fun k x j hx hw hd => ?_, fun j d hsl hd => ?_, fun j d hsl hd => ?_, fun d hd => ?_, by rw [put_size]; exact h.size, ?_, fun k hk x hx hd => ?_⟩
  · rw [getD_set hi, if_neg (fun e => hk (by rw [e]; exact hd2))]
    exact h.rest k (fun hd => hk (hd1 k hd))
  · rw [getD_set hi]
    split
    · rfl
    · rename_i hne
      rcases hd3 k hk with hk | hk
      · exact h.turned k hk hn
      · exact absurd hk hne
  · rw [getD_set hi] at hd ⊢
    split
    · rfl
    · split at hd
      · rename_i _ he
        subst he
        obtain rfl := Option.some.inj (ho.symm.trans hx)
        exact hdep j hw
      · exact h.shut k x j hx hw hd
  · rw [getD_set hi] at hd
    rw [put_get]
    by_cases hji : j = i
    · subst hji
      rw [if_pos ⟨by rw [← hslot]; exact hsl, by rw [h.size]; exact (okSlots_at hs hsl).1⟩, hV]
    · rw [if_neg hji] at hd
      rw [if_neg (fun hh => hji (hu j i d hsl (by rw [hslot]; exact hh.1))), hVo j hji]
      exact h.done j d hsl hd
  · rw [getD_set hi] at hd
    split at hd
    · cases hd
    · rename_i hji
      rw [put_get, if_neg (fun hh => hji (hu j i d hsl (by rw [hslot]; exact hh.1)))]
      exact h.opn j d hsl hd
  · rw [put_get, if_neg (fun hh => by
      have := hasSlot_of (ops := ops) (j := i) (d := d) (by rw [hslot]; exact hh.1)
      rw [hd] at this; cases this)]
    exact h.old d hd
  · rw [← h.defers]; cases o.dst <;> rfl
  · rw [getD_set hi] at hd
    split at hd
    · cases hd
    · rename_i hki
      exact claim k hk x hx hki hd

theorem region_chain {id : Nat} {a0 : Act} {w0 : World} (ph : List (List Nat × Nat)) (tl : List Nat) (S K : World → Prop) (hm : P.follows .mixedOrders = true) (hchk : chainOk ops a0.tmps.size ph tl = true)
    (kc : ∀ w w', K w → Grow w w' → K w') (ks : ∀ w, K w → S w) (h0 : K w0.drew) (h : Chain P ops Q ph tl [] S K a0) : (Code.region id ops true).wp P Q a0 w0 := by
  simp only [chainOk, Bool.and_eq_true] at hchk
  obtain ⟨⟨⟨⟨⟨hs, ha⟩, hsel⟩, htopo⟩, hall⟩, hlate⟩ := hchk
  obtain ⟨ord, hord⟩ : ∃ ord, ord = ordOf ph tl := ⟨_, rfl⟩
  rw [← hord] at htopo hall
  have hu := okSlots_uniq hs
  have hin : ∀ i, i < ops.size → i ∈ ord := fun i hi => by simpa using List.all_eq_true.1 hall i (by simpa using hi)
  refine wp_region_any hm ?_
  have e : Array.replicate ops.size false = (List.replicate ops.size false).toArray := by simp
  rw [e]
  have hr : ∀ i, (List.replicate ops.size false).getD i false = false := fun i => by
    simp only [List.getD, List.getElem?_replicate]; split <;> rfl
  refine wpAny_both (CInv P ops Q a0 ord tl) ?_ ?_ ops.size _ a0 _ (by simp) (by simp) ?_
  · rintro l a w i o ⟨S, K, V, prs, don, hb, hcont⟩ hl hi ho
    obtain ⟨hlt, hf⟩ := ready_open hi
    have hdep := fun j hj => dep_done (ready_dep hi ho) j hj
    have hil : i < l.length := by omega
    have hfd : l.getD i false = false := by
      simp only [List.getD, List.getElem?_eq_getElem hil] at hf ⊢
      simpa using hf
    obtain ⟨x, _, hx, _, hsl, _⟩ := topoOk_lt htopo i (hin i hlt)
    obtain rfl := Option.some.inj (hx.symm.trans ho)
    have hsee : SeesV ops a0 a V i x := ⟨fun j d h1 h2 => hb.done j d h2 (hdep j h1), fun j d h1 h2 _ => hb.opn j d h2 (by
      cases hj : l.getD j false with
      | false => rfl
      | true =>
        exfalso
        unfold waits at h1
        cases hoj : ops[j]? with
        | none => rw [hoj] at h1; cases h1
        | some y =>
          rw [hoj] at h1
          have := hb.shut j y i hoj h1 hj
          rw [hfd] at this; cases this), hb.old⟩
    by_cases hp : i ∈ prs
    · have hcl := hb.claim i hp x hx hfd
      have hnext : ∀ w', Grow w w' → CInv P ops Q a0 ord tl (l.set i true) (a.put x.dst (V i)) w' := fun w' hg =>
        ⟨S, K, V, prs, don, hb.more hs hil hx hdep rfl (fun _ _ => rfl) (fun _ h => h) (hb.sub i hp) (fun _ h => .inl h) (hb.kc w w' hb.kw hg) hb.kc hb.ks (fun k hk y hy _ hd => hb.claim k hk y hy hd), hcont⟩
      cases hw : Region.wanted x (yielded ops a.tmps) with
      | true =>
        refine .inl ⟨rfl, ?_⟩
        have h1 := hcl.yes ((hsee.wanted hsl).symm.trans hw) w (hb.ks w hb.kw)
        unfold Oper.wp
        rw [hsee.exec hx hsel hsl]
        exact wp_still h1 hnext
      | false =>
        refine .inr ⟨rfl, ?_⟩
        have h1 := hcl.no ((hsee.wanted hsl).symm.trans hw)
        have := hnext w (But.refl _ _)
        rwa [h1] at this
    · have hnd : i ∉ don := fun hd => by
        have := hb.turned i hd hp
        rw [hfd] at this; cases this
      rcases hcont with ⟨rfl, _⟩ | ⟨t, ph', ho2, hlt2, hl2, hturn⟩
      · exact absurd (hin i hlt) hnd
      have htp := htopo
      rw [← ho2] at htp
      have hmem : i ∈ t :: ordOf ph' tl := by
        have := hin i hlt
        rw [← ho2] at this
        rcases List.mem_append.1 this with h | h
        · exact absurd h hnd
        · exact h
      have hrest : ∀ j ∈ t :: ordOf ph' tl, l.getD j false = false := fun j hj => hb.rest j (fun hd => topoOk_mem (topoOk_drop htp) j hj (by simpa using hd))
      have hit : i = t := by
        rcases List.mem_cons.1 hmem with h | h
        · exact h
        · exfalso
          obtain ⟨j, hj1, hj2⟩ := List.any_eq_true.1 (List.all_eq_true.1 hlt2 i h)
          rw [waits_of hx] at hj2
          have := hdep j hj2
          rw [hrest j hj1] at this; cases this
      subst hit
      have hpre : Pre ops don (i :: ordOf ph' tl) := by
        have h1 : Pre ops [] (don ++ i :: ordOf ph' tl) := fun k hk => absurd hk List.not_mem_nil
        simpa using topoOk_pre (m := don) h1 htp
      have hwd : ∀ j, waitsFor x j = true → j ∈ don := fun j hj => by
        obtain ⟨_, _, y, hy, h4, _⟩ := topoOk_cons (topoOk_drop htp)
        obtain rfl := Option.some.inj (hy.symm.trans hx)
        simpa using h4 j hj
      have hsee2 : SeesV ops a0 (putAll ops V don a0) V i x := putAll_sees hs hwd (fun j hj hd => by
        have := hpre j hd i List.mem_cons_self
        rw [this] at hj; cases hj)
      have hslot : slotAt ops i = x.dst := by unfold slotAt; rw [hx]; rfl
      have hput : ∀ v, (putAll ops V don a0).put x.dst v = putAll ops (upd V i v) (don ++ [i]) a0 := fun v => by
        rw [putAll_append, putAll_congr (f := upd V i v) (g := V) don a0 (fun j hj => upd_other _ _ (fun e => hnd (e ▸ hj)))]
        show _ = (putAll ops V don a0).put (slotAt ops i) (upd V i v i)
        rw [upd_same, hslot]
      have hcong : ∀ v k y, k ∈ prs → ops[k]? = some y → ∀ S', Holds1 P ops a0 V S' k y → Holds1 P ops a0 (upd V i v) S' k y := fun v k y hk hy S' hh => by
        have hkd := hb.sub k hk
        have hcl := fun j hj => don_closed htp k hkd y j hy hj
        have hv : ∀ j ∈ don, V j = upd V i v j := fun j hj => (upd_other V v (fun e => hnd (by rw [← e]; exact hj))).symm
        refine hh.congr (hv k hkd) (fun j hj => hv j (by simpa using hcl j hj)) (fun g b hg => hv g ?_)
        obtain ⟨z, _, hz, _, h5, _⟩ := topoOk_lt htp k (List.mem_append_left _ hkd)
        obtain rfl := Option.some.inj (hz.symm.trans hy)
        simp only [slotsOk, hg, Bool.and_eq_true] at h5
        simpa using hcl g h5.2.1
      have hord' : (don ++ [i]) ++ ordOf ph' tl = ord := by rw [List.append_assoc]; exact ho2
      have hd3 : ∀ j ∈ don ++ [i], j ∈ don ∨ j = i := fun j hj => by
        rcases List.mem_append.1 hj with h | h
        · exact .inl h
        · exact .inr (by simpa using h)
      unfold TurnAt at hturn
      rw [hx] at hturn
      simp only at hturn
      have hww : Region.wanted x (yielded ops (putAll ops V don a0).tmps) = Region.wanted x (yielded ops a.tmps) := (hsee2.wanted hsl).trans (hsee.wanted hsl).symm
      rw [hww] at hturn
      cases hw : Region.wanted x (yielded ops a.tmps) with
      | true =>
        rw [hw] at hturn
        simp only [if_true] at hturn
        obtain ⟨K', S', kc', ks', hfull, hwp, hnext⟩ := hturn
        refine .inl ⟨rfl, Oper.wp_mono ?_ (wp_transfer (Q := Q) ((hsee.exec hx hsel hsl).trans (hsee2.exec hx hsel hsl).symm) (by rw [putAll_size, hb.size]) (hwp w hb.kw))⟩
        rintro a' w' ⟨v, rfl, hK'⟩
        have hch := hnext v ⟨w', hK'⟩
        rw [hput] at hch
        refine chain_enter hs hsel htopo (hb.more hs hil hx hdep (upd_same _ _ _) (fun j hj => upd_other _ _ hj) (fun j hj => List.mem_append_left _ hj) (by simp) hd3 hK' (kc' v) (ks' v) (fun k hk y hy _ hd => ?_)) hord' hl2 hch
        rcases hfull with hfull | hS
        · exfalso
          have hkd : l.getD k false = true := by
            have := List.all_eq_true.1 hfull k hk
            simp only [Bool.or_eq_true] at this
            rcases this with h1 | h1
            · rw [waits_of hx] at h1
              exact hdep k h1
            · obtain ⟨m, _, hm⟩ := List.any_eq_true.1 h1
              simp only [Bool.and_eq_true] at hm
              rw [waits_of hx] at hm
              have hmd := hdep m hm.1
              have hm2 := hm.2
              unfold waits at hm2
              cases hom : ops[m]? with
              | none => rw [hom] at hm2; cases hm2
              | some z =>
                rw [hom] at hm2
                exact hb.shut m z k hom hm2 hmd
          rw [hd] at hkd; cases hkd
        · have hh := hb.claim k hk y hy hd
          exact hcong v k y hk hy _ ⟨fun h1 w hS' => hh.yes h1 w (hS v w hS'), hh.no⟩
      | false =>
        rw [hw] at hturn
        simp only [Bool.false_eq_true, if_false] at hturn
        refine .inr ⟨rfl, ?_⟩
        rw [hput] at hturn
        exact chain_enter hs hsel htopo (hb.more hs hil hx hdep (upd_same _ _ _) (fun j hj => upd_other _ _ hj) (fun j hj => List.mem_append_left _ hj) (by simp) hd3 hb.kw hb.kc hb.ks (fun k hk y hy _ hd => hcong undef k y hk hy _ (hb.claim k hk y hy hd))) hord' hl2 hturn
  · rintro l a w ⟨S, K, V, prs, don, hb, hcont⟩ hl hrd
    have hal := ready_all ha hl hrd
    have hdn : ∀ j, j < ops.size → l.getD j false = true := fun j hj => by rw [hal]; simp [List.getD, hj]
    rcases hcont with ⟨rfl, hq⟩ | ⟨t, ph', ho2, _, _, _⟩
    · have ea : putAll ops V don a0 = a := by
        have e1 : (putAll ops V don a0).tmps = a.tmps := by
          apply Array.ext_getElem?
          intro d
          by_cases hd : d < a0.tmps.size
          · rw [putAll_get V hu _ _ d hd]
            cases hfd : don.find? (fun j => slotAt ops j == some d) with
            | some j =>
              have h1 : slotAt ops j = some d := by simpa using List.find?_some hfd
              exact (hb.done j d h1 (hdn j (slotAt_lt h1))).symm
            | none =>
              refine (hb.old d ?_).symm
              cases hh : hasSlot ops d with
              | false => rfl
              | true =>
                obtain ⟨j, h1, h2⟩ := List.any_eq_true.1 hh
                exact absurd h2 (List.find?_eq_none.1 hfd j (hin j (by simpa using h1)))
          · rw [Array.getElem?_eq_none (by rw [putAll_size]; omega), Array.getElem?_eq_none (by rw [hb.size]; omega)]
        have e2 : (putAll ops V don a0).defers = a.defers := by rw [putAll_defers, hb.defers]
        cases hp : putAll ops V don a0
        rw [hp] at e1 e2
        cases a
        simp only at e1 e2
        rw [e1, e2]
      rw [← ea]
      exact hq w hb.kw
    · exfalso
      have htp := htopo
      rw [← ho2] at htp
      have hnt : t ∉ don := fun hd => topoOk_mem (topoOk_drop htp) t List.mem_cons_self (by simpa using hd)
      have hto : t ∈ ord := by rw [← ho2]; simp
      obtain ⟨y, _, hy, _⟩ := topoOk_lt htopo t hto
      have h1 := hdn t (Array.getElem?_eq_some_iff.1 hy).1
      rw [hb.rest t hnt] at h1; cases h1
  · refine chain_enter (V := fun _ => undef) (prs := []) (don := []) hs hsel htopo ⟨h0, kc, ks, fun i hi => absurd hi List.not_mem_nil, fun i _ => hr i, fun i hi => absurd hi List.not_mem_nil, fun i x j _ _ hd => ?_, fun j d _ hd => ?_, fun _ _ _ _ => rfl, fun _ _ => rfl, rfl, rfl, fun k hk => absurd hk List.not_mem_nil⟩ (by rw [List.nil_append]; exact hord.symm) hlate h
    · rw [hr i] at hd; cases hd
    · rw [hr j] at hd; cases hd

section
variable {ι : Type} {W : ι → World} {Qa : Act → Prop} {i : Nat} {rest : List Nat} {a : Act} {o : Oper}
theorem still_nil (h : Qa a) : wpStill P ops W Qa [] a := h
/-- One operation at a time, what follows behind a letter. -/
theorem still_step (ho : ops[i]? = some o) (h : ∀ K : Act → Prop, (∀ a, wpStill P ops W Qa rest a → K a) → if Region.wanted o (yielded ops a.tmps) then ∃ v, (∀ x, Oper.quietUpon P (Grow (W x)) (W x) v ((execOp a.eval o).run P (W x))) ∧ K (a.put o.dst v) else K (a.put o.dst undef)) :
    wpStill P ops W Qa (i :: rest) a := by
  have := h _ (fun _ h => h)
  unfold wpStill
  rw [ho]
  exact this
theorem still_val (ho : ops[i]? = some o) (v : Value) (hw : Region.wanted o (yielded ops a.tmps) = true) (h : ∀ x, (execOp a.eval o).run P (W x) = .ok (.value v) (W x)) (h2 : ∀ K : Act → Prop, (∀ a, wpStill P ops W Qa rest a → K a) → K (a.put o.dst v)) :
    wpStill P ops W Qa (i :: rest) a :=
  still_step ho fun K hK => by
    rw [if_pos hw]
    exact ⟨v, fun x => by rw [h x]; exact ⟨rfl, rfl⟩, h2 K hK⟩
theorem still_call (ho : ops[i]? = some o) (v : Value) (f : FuncId) (args : Array Value) (hw : Region.wanted o (yielded ops a.tmps) = true) (h : ∀ x, (execOp a.eval o).run P (W x) = .ok (.enter f args) (W x))
    (hc : ∀ x, Calls P f args (W x) fun e w' => e = .returned v ∧ Grow (W x) w') (h2 : ∀ K : Act → Prop, (∀ a, wpStill P ops W Qa rest a → K a) → K (a.put o.dst v)) : wpStill P ops W Qa (i :: rest) a :=
  still_step ho fun K hK => by
    rw [if_pos hw]
    exact ⟨v, fun x => by rw [h x]; exact ⟨rfl, hc x⟩, h2 K hK⟩
theorem still_skip (ho : ops[i]? = some o) (hw : Region.wanted o (yielded ops a.tmps) = false) (h2 : ∀ K : Act → Prop, (∀ a, wpStill P ops W Qa rest a → K a) → K (a.put o.dst undef)) : wpStill P ops W Qa (i :: rest) a :=
  still_step ho fun K hK => by
    rw [if_neg (by rw [hw]; decide)]
    exact h2 K hK
/-- Some that are all passed by, at once. -/
def putUndef (ops : Array Oper) : List Nat → Act → Act
  | [], a => a
  | i :: l, a => putUndef ops l (a.put (slotAt ops i) undef)
def skipsAll (ops : Array Oper) (g : Nat) (b : Bool) (l : List Nat) : Bool := l.all fun i => ((ops[i]?).map fun o => o.guard == some (g, !b)).getD false && !(slotAt ops i == slotAt ops g)
theorem still_skips (g : Nat) (b : Bool) (d : Tmp) (hg : slotAt ops g = some d) : ∀ (l : List Nat) (a : Act), skipsAll ops g b l = true → a.tmps[d]? = some (.bool b) → wpStill P ops W Qa rest (putUndef ops l a) → wpStill P ops W Qa (l ++ rest) a
  | [], _, _, _, h => h
  | i :: l, a, hs, hv, h => by
    simp only [skipsAll, List.all_cons, Bool.and_eq_true, Bool.not_eq_true'] at hs
    obtain ⟨⟨h1, h2⟩, h3⟩ := hs
    cases ho : ops[i]? with
    | none => rw [ho] at h1; cases h1
    | some o =>
      rw [ho] at h1
      have hgd : o.guard = some (g, !b) := by simpa using h1
      have hsl : slotAt ops i = o.dst := by unfold slotAt; rw [ho]; rfl
      refine still_skip ho ?_ (fun K hK => hK _ ?_)
      · have hg' : (ops[g]?).bind (·.dst) = some d := hg
        unfold Region.wanted
        rw [hgd]
        simp only [yielded, hg', Option.bind_some, hv]
        cases b <;> rfl
      · refine still_skips g b d hg l _ (by unfold skipsAll; exact h3) ?_ (by rw [← hsl]; exact h)
        rw [put_get, if_neg]
        · exact hv
        · rintro ⟨e, _⟩
          rw [hsl, e, hg] at h2
          simp at h2
theorem turn_on {t : Nat} {full : Bool} {S K : World → Prop} {next : (World → Prop) → (World → Prop) → Act → Prop} (ho : ops[t]? = some o) (hw : Region.wanted o (yielded ops a.tmps) = true) (K' S' : Value → World → Prop)
    (kc : ∀ v w w', K' v w → Grow w w' → K' v w') (ks : ∀ v w, K' v w → S' v w) (hf : full = true ∨ ∀ v w, S' v w → S w)
    (hwp : ∀ w, K w → wpList P ops (fun ex a'' w' => ex = .normal ∧ ∃ v, a'' = a.put o.dst v ∧ K' v w') [o] a w)
    (hn : ∀ v, (∃ w, K' v w) → ∀ X : Act → Prop, (∀ a, next (S' v) (K' v) a → X a) → X (a.put o.dst v)) : TurnAt P ops t full S K next a := by
  unfold TurnAt
  rw [ho]
  simp only [hw, if_true]
  refine ⟨K', S', kc, ks, hf, fun w hK => ?_, fun v hv => hn v hv _ (fun _ h => h)⟩
  have h := hwp w hK
  unfold wpList at h
  rw [if_pos hw] at h
  rcases h with h | ⟨_, a', w', h, _⟩
  · unfold Oper.wp at *
    generalize (execOp a.eval o).run P w = r at *
    cases r with
    | halt x w' => cases x <;> simp only [Oper.upon] at h <;> first | exact h | (exact absurd h.1 (by simp))
    | ok n w' =>
      cases n <;> simp only [Oper.upon] at h ⊢ <;> first
        | exact h.2
        | exact Calls.mono h (fun e w'' he => by
            cases e with
            | returned v => exact he.2
            | panicked c => exact absurd he.1 (by simp)
            | outgrown => obtain ⟨_, _, he, _⟩ := he; cases he)
        | exact Rows.mono h (fun _ _ he => he.2)
        | exact h
  · cases h
/-- A call that turns memory, or makes some. -/
theorem turn_call {t : Nat} {full : Bool} {S K : World → Prop} {next : (World → Prop) → (World → Prop) → Act → Prop} (ho : ops[t]? = some o) (hw : Region.wanted o (yielded ops a.tmps) = true) (K' S' : Value → World → Prop)
    (kc : ∀ v w w', K' v w → Grow w w' → K' v w') (ks : ∀ v w, K' v w → S' v w) (hf : full = true ∨ ∀ v w, S' v w → S w) (f : FuncId) (args : Array Value)
    (hr : ∀ w, (execOp a.eval o).run P w = .ok (.enter f args) w) (hc : ∀ w, K w → Calls P f args w fun e w' => ∃ v, e = .returned v ∧ K' v w')
    (hn : ∀ v, (∃ w, K' v w) → ∀ X : Act → Prop, (∀ a, next (S' v) (K' v) a → X a) → X (a.put o.dst v)) : TurnAt P ops t full S K next a := by
  unfold TurnAt
  rw [ho]
  simp only [hw, if_true]
  refine ⟨K', S', kc, ks, hf, fun w hK => ?_, fun v hv => hn v hv _ (fun _ h => h)⟩
  unfold Oper.wp
  rw [hr w, Oper.upon_enter]
  refine (hc w hK).mono fun e w'' hh => ?_
  obtain ⟨v, rfl, hk⟩ := hh
  exact ⟨v, rfl, hk⟩
/-- One that turns memory, by what it runs to. -/
theorem turn_run {t : Nat} {full : Bool} {S K : World → Prop} {next : (World → Prop) → (World → Prop) → Act → Prop} (ho : ops[t]? = some o) (hw : Region.wanted o (yielded ops a.tmps) = true) (K' S' : Value → World → Prop)
    (kc : ∀ v w w', K' v w → Grow w w' → K' v w') (ks : ∀ v w, K' v w → S' v w) (hf : full = true ∨ ∀ v w, S' v w → S w)
    (hr : ∀ w, K w → ∃ v w', ((execOp a.eval o).run P w = .ok (.value v) w' ∨ ((execOp a.eval o).run P w = .ok .skip w' ∧ v = undef)) ∧ K' v w')
    (hn : ∀ v, (∃ w, K' v w) → ∀ X : Act → Prop, (∀ a, next (S' v) (K' v) a → X a) → X (a.put o.dst v)) : TurnAt P ops t full S K next a := by
  unfold TurnAt
  rw [ho]
  simp only [hw, if_true]
  refine ⟨K', S', kc, ks, hf, fun w hK => ?_, fun v hv => hn v hv _ (fun _ h => h)⟩
  obtain ⟨v, w', h, hk⟩ := hr w hK
  unfold Oper.wp
  rcases h with h | ⟨h, rfl⟩
  · rw [h]; exact ⟨v, rfl, hk⟩
  · rw [h]; exact ⟨undef, rfl, hk⟩
theorem turn_off {t : Nat} {full : Bool} {S K : World → Prop} {next : (World → Prop) → (World → Prop) → Act → Prop} (ho : ops[t]? = some o) (hw : Region.wanted o (yielded ops a.tmps) = false) 
    (hn : ∀ X : Act → Prop, (∀ a, next S K a → X a) → X (a.put o.dst undef)) : TurnAt P ops t full S K next a := by
  unfold TurnAt
  rw [ho]
  simp only [hw]
  exact hn _ (fun _ h => h)
end
end
end Go.Proofs.YtmlladpmecclbaaDoor
/- The reference's bytes: Same, Copy, Lent, Kept. -/
namespace Go.Proofs.YtmlladpmecclbaaDoor
open Go.RowKit

theorem u8info : (Tryd.prog.info? 5).map (fun i => (i.zero, i.size, i.bytes)) = some (some (.int .u8 0), 1, 1) := by kernel_rfl

theorem take_next' (l : List Nat) (k : Nat) (h : k < l.length) : l.take (k + 1) = l.take k ++ [l.getD k 0] := by
  rw [List.take_succ_eq_append_getElem h]; simp [List.getD, List.getElem?_eq_getElem h]
theorem getD_of_eq {l m : List Nat} (h : l = m) (i : Nat) : l.getD i 0 = m.getD i 0 := by rw [h]
theorem eq_of_getD {l m : List Nat} {n : Nat} (h1 : l.length = n) (h2 : m.length = n) (h : l.take n = m.take n) : l = m := by
  rw [List.take_of_length_le (by omega), List.take_of_length_le (by omega)] at h; exact h

theorem same_lens (a0 a1 : Option Addr) (n m c0 c1 : Nat) (h : n ≠ m) (w : World) :
    Calls Tryd.prog 19 #[.slice a0 n c0, .slice a1 m c1] w fun e w' => e = .returned (.bool false) ∧ w' = w := by
  have h' : ¬ ((n : Int) = (m : Int)) := by omega
  go_enter Tryd.func19, Tryd.ntmps19
  go_wp2
  go_ret
  exact ⟨rfl, rfl⟩
theorem same_none (a0 a1 : Option Addr) (c0 c1 : Nat) (w : World) :
    Calls Tryd.prog 19 #[.slice a0 0 c0, .slice a1 0 c1] w fun e w' => e = .returned (.bool true) ∧ w' = w := by
  go_enter Tryd.func19, Tryd.ntmps19
  go_wp2
  refine wp_loop_rounds 1 ?_
  rw [rounds_succ]
  go_wp2
  go_ret
  exact ⟨rfl, rfl⟩
theorem same_some (b0 o0 c0 b1 o1 c1 n : Nat) (xs ys : List Nat) (w : World) (hx : xs.length = n) (hy : ys.length = n) (hn : n ≤ 281474976710656)
    (hc0 : ∀ i, i < n → w.cell? ⟨b0, o0 + i, none⟩ = some (.int .u8 (xs.getD i 0 : Nat))) (hc1 : ∀ i, i < n → w.cell? ⟨b1, o1 + i, none⟩ = some (.int .u8 (ys.getD i 0 : Nat))) :
    Calls Tryd.prog 19 #[.slice (some ⟨b0, o0, none⟩) n c0, .slice (some ⟨b1, o1, none⟩) n c1] w fun e w' => e = .returned (.bool (decide (xs = ys))) ∧ ∃ d, w' = w.drewN d := by
  have HX : Hid (xs.length = n) := hx
  have HY : Hid (ys.length = n) := hy
  have H0 : Hid (∀ i, i < n → w.cell? ⟨b0, o0 + i, none⟩ = some (.int .u8 (xs.getD i 0 : Nat))) := hc0
  have H1 : Hid (∀ i, i < n → w.cell? ⟨b1, o1 + i, none⟩ = some (.int .u8 (ys.getD i 0 : Nat))) := hc1
  clear hx hy hc0 hc1
  go_enter Tryd.func19, Tryd.ntmps19
  go_wp2
  go_loopw [5] (fun i wr => ∃ k d : Nat, k ≤ n ∧ i = .int .i64 k ∧ xs.take k = ys.take k ∧ wr = w.drewN d) (fun i _ => n - (intOf i).toNat)
  case atStart => exact ⟨0, 0, Nat.zero_le _, rfl, rfl, rfl⟩
  case round =>
    obtain ⟨k, d, hk, rfl, hr, rfl⟩ := hrel
    have HR : Hid (xs.take k = ys.take k) := hr
    clear hr
    by_cases hlt : k < n
    · obtain ⟨x, hx⟩ : ∃ x, xs.getD k 0 = x := ⟨_, rfl⟩
      obtain ⟨y, hy⟩ : ∃ y, ys.getD k 0 = y := ⟨_, rfl⟩
      have f0 : w.cell? ⟨b0, o0 + k, none⟩ = some (.int .u8 (x : Nat)) := by rw [← hx]; exact H0.out k hlt
      have f1 : w.cell? ⟨b1, o1 + k, none⟩ = some (.int .u8 (y : Nat)) := by rw [← hy]; exact H1.out k hlt
      by_cases hxy : x = y
      · have HS : Hid (xs.take (k + 1) = ys.take (k + 1)) := by
          show _ = _
          rw [take_next' xs k (by rw [HX.out]; exact hlt), take_next' ys k (by rw [HY.out]; exact hlt), hx, hy, HR.out, hxy]
        clear hx hy
        subst hxy
        go_wp2
        go_quiet (fail)
        go_wp2
        go_roundw
        case rel => exact ⟨k + 1, _, by omega, by go_num, HS.out, rfl⟩
        case measure => simp [intOf]; omega
      · have hd : decide (xs = ys) = false := by
          rw [decide_eq_false_iff_not]
          intro e; exact hxy (by rw [← hx, ← hy, getD_of_eq e])
        have hxy' : ¬ ((x : Int) = (y : Int)) := by omega
        clear hx hy
        go_wp2
        go_quiet (fail)
        go_wp2
        go_ret
        exact ⟨by rw [hd]; rfl, _, World.drewN_drewN _ _ _⟩
    · have hd : decide (xs = ys) = true := by
        rw [decide_eq_true_iff]
        exact eq_of_getD HX.out HY.out (by have : k = n := by omega
                                           rw [← this]; exact HR.out)
      go_wp2
      go_ret
      exact ⟨by rw [hd]; rfl, _, rfl⟩
theorem same_any {v u : Value} {xs ys : List Nat} {w : World} (hv : Bs w v xs) (hu : Bs w u ys) :
    Calls Tryd.prog 19 #[v, u] w fun e w' => e = .returned (.bool (decide (xs = ys))) ∧ ∃ d, w' = w.drewN d := by
  have sh : ∀ {v : Value} {zs : List Nat}, Bs w v zs → ∃ ao cap, v = .slice ao zs.length cap := by
    rintro v zs ⟨_, _, ⟨rfl, rfl | ⟨a, cap, rfl⟩⟩ | ⟨_, b, off, cap, rfl, _⟩⟩
    · exact ⟨_, _, rfl⟩
    · exact ⟨_, _, rfl⟩
    · exact ⟨_, _, rfl⟩
  by_cases hl : xs.length = ys.length
  · obtain ⟨_, l1, c1⟩ := hv
    obtain ⟨_, l2, c2⟩ := hu
    rcases c1 with ⟨rfl, hc⟩ | ⟨h1, b, off, cap, rfl, _, _, f1⟩
    · have : ys = [] := List.eq_nil_of_length_eq_zero (by rw [← hl]; rfl)
      subst this
      obtain ⟨a0, c0, rfl⟩ : ∃ ao cap, v = .slice ao 0 cap := by rcases hc with rfl | ⟨a, cap, rfl⟩ <;> exact ⟨_, _, rfl⟩
      rcases c2 with ⟨_, hc⟩ | ⟨h2, _⟩
      · obtain ⟨a1, c1, rfl⟩ : ∃ ao cap, u = .slice ao 0 cap := by rcases hc with rfl | ⟨a, cap, rfl⟩ <;> exact ⟨_, _, rfl⟩
        exact (same_none a0 a1 c0 c1 w).mono fun e w' h => ⟨by simpa using h.1, 0, h.2⟩
      · simp at h2
    · rcases c2 with ⟨rfl, _⟩ | ⟨_, b2, off2, cap2, rfl, _, _, f2⟩
      · exfalso; rw [hl] at h1; exact Nat.lt_irrefl 0 h1
      · rw [← hl] at f2 ⊢
        exact same_some _ _ _ _ _ _ _ xs ys w rfl hl.symm l1 f1 f2
  · obtain ⟨a0, c0, rfl⟩ := sh hv
    obtain ⟨a1, c1, rfl⟩ := sh hu
    have hne : xs ≠ ys := fun e => hl (by rw [e])
    rw [decide_eq_false hne]
    exact (same_lens _ _ _ _ _ _ hl w).mono fun e w' h => ⟨h.1, 0, h.2⟩
theorem cell_new (w : World) (v : Value) (T : TypeId) : ∀ j u, [v][j]? = some u → (w.alloc (.cells #[v] T)).cell? ((⟨w.heap.size, 0, none⟩ : Addr).add j) = some u := by
  intro j u h
  rcases j with _ | j
  · simp at h; subst h; simp [go_sem]
  · simp at h
theorem cell_new3 (w : World) (x y z : Nat) (T : TypeId) : ∀ j u, (u8s [x, y, z])[j]? = some u → (w.alloc (.cells #[.int .u8 (x : Nat), .int .u8 (y : Nat), .int .u8 (z : Nat)] T)).cell? ((⟨w.heap.size, 0, none⟩ : Addr).add j) = some u := by
  intro j u h
  match j, h with
  | 0, h => simp [u8s] at h; subst h; simp [go_sem, Addr.add]
  | 1, h => simp [u8s] at h; subst h; simp [go_sem, Addr.add]
  | 2, h => simp [u8s] at h; subst h; simp [go_sem, Addr.add]
  | j + 3, h => simp [u8s] at h
/-- One byte more behind own bytes. -/
theorem Ow.push {w w' : World} {base : Nat} {v : Value} {zs : List Nat} {y : Nat} (h : Ow w base v zs) (hy : y < 256) (hl : zs.length + 1 ≤ 281474976710656) {v' : Value} (h' : w'.ownsRow base 5 1 v' (zs.length + 1) (u8s zs ++ [.int .u8 (y : Nat)])) : Ow w' base v' (zs ++ [y]) := by
  refine ⟨?_, by simpa using hl, ?_⟩
  · intro z hz
    rcases List.mem_append.1 hz with hz | hz
    · exact h.lt z hz
    · simp at hz; subst hz; exact hy
  · have e : u8s (zs ++ [y]) = u8s zs ++ [.int .u8 (y : Nat)] := by simp [u8s]
    rw [e, List.length_append]; exact h'
theorem Ow.alloc {w : World} {base : Nat} {v : Value} {zs : List Nat} (h : Ow w base v zs) (o : Obj) : Ow (w.alloc o) base v zs := ⟨h.lt, h.len, h.own.alloc o⟩

theorem copy_any {v : Value} {xs : List Nat} {w : World} (hv : Bs w v xs) (hl : xs.length ≤ 140737488355328) :
    Calls Tryd.prog 26 #[v] w fun e w' => ∃ v', e = .returned v' ∧ Ow w' w.heap.size v' xs ∧ Below w.heap.size w w' := by
  obtain ⟨i0, hi, hz0, hz1, hz2⟩ := info_parts u8info
  obtain ⟨hb, _, hcase⟩ := hv
  rcases hcase with ⟨rfl, hc⟩ | ⟨h0, b, off, cap, rfl, hcap, hblk, hcell⟩
  · obtain ⟨a0, c0, rfl⟩ : ∃ ao cap, v = .slice ao 0 cap := by rcases hc with rfl | ⟨a, cap, rfl⟩ <;> exact ⟨_, _, rfl⟩
    clear hc
    go_enter Tryd.func26, Tryd.ntmps26
    go_wp2_with (at_make; refine wpList_make_own _ rfl _ _ 22 rfl w.heap.size 5 i0 (.int .u8 0) 1 Tryd.underlying22 hi hz0 hz1 .i64 .i64 0 0 rfl rfl rfl (by simp) (by decide) (Nat.le_refl _) ?_; intro w1 hown hgrow)
    refine wp_loop_rounds 1 ?_
    rw [rounds_succ]
    go_wp2
    go_ret
    exact ⟨_, rfl, ⟨by simp, by simp, by assumption⟩, (Below.refl _ _).grown (by assumption) (Nat.le_refl _) (by simp)⟩
  · obtain ⟨n, hn⟩ : ∃ n, xs.length = n := ⟨_, rfl⟩
    rw [hn] at hl h0 hcap hcell ⊢
    have HN : Hid (xs.length = n) := hn
    have HC : Hid (∀ i, i < n → w.cell? ⟨b, off + i, none⟩ = some (.int .u8 (xs.getD i 0 : Nat))) := hcell
    have HB : Hid (∀ z ∈ xs, z < 256) := hb
    clear hn hcell hb
    go_enter Tryd.func26, Tryd.ntmps26
    go_wp2_with (at_make; refine wpList_make_own _ rfl _ _ 22 rfl w.heap.size 5 i0 (.int .u8 0) 1 Tryd.underlying22 hi hz0 hz1 .i64 .i64 _ n rfl rfl rfl (by rw [hz2]; omega) (by unfold maxLen; omega) (Nat.le_refl _) ?_; intro w1 hown hgrow)
    go_loopw [3, 4] (fun o i wr => ∃ k : Nat, k ≤ n ∧ i = .int .i64 k ∧ Ow wr w.heap.size o (xs.take k) ∧ Below w.heap.size w wr) (fun _ i _ => n - (intOf i).toNat)
    case atStart => exact ⟨0, Nat.zero_le _, rfl, ⟨by simp, by simp, by simpa using hown⟩, (Below.refl _ _).grown hgrow (Nat.le_refl _) (by simp)⟩
    case round =>
      obtain ⟨k, hk, rfl, ho, hbel⟩ := hrel
      have hsz := hbel.size
      by_cases hlt : k < n
      · obtain ⟨y, hy⟩ : ∃ y, xs.getD k 0 = y := ⟨_, rfl⟩
        have hkl : k < xs.length := by rw [HN.out]; exact hlt
        have HT : Hid (xs.take (k + 1) = xs.take k ++ [y]) := by rw [← hy]; exact take_next' xs k hkl
        have f : wr.cell? ⟨b, off + k, none⟩ = some (.int .u8 (y : Nat)) := by rw [← hy]; exact (hbel.cell (by exact hblk)).trans (HC.out k hlt)
        have hy1 : y < 256 := by rw [← hy]; exact HB.out _ (getD_mem xs k hkl)
        clear hy
        have hlk : (xs.take k).length = k := by rw [List.length_take]; omega
        have HO : Hid (Ow wr w.heap.size u3 (xs.take k)) := ho
        have HR : Hid (wr.ownsRow w.heap.size 5 1 u3 k (u8s (xs.take k))) := by have := ho.own; rw [hlk] at this; exact this
        clear ho
        go_wp2_with (at_builtin; refine wpList_append_own _ rfl _ _ 22 rfl w.heap.size 5 i0 (.int .u8 0) 1 1 Tryd.underlying22 hi hz0 hz1 hz2 rfl (by decide) _ _ _ rfl (HR.out.alloc _) ⟨wr.heap.size, 0, none⟩ 1 1 [.int .u8 (y : Nat)] rfl rfl (cell_new _ _ _) (by intro u hu; simp at hu; subst hu; rfl) (by unfold maxLen; omega) (by omega) (by simp; omega) ?_; intro v' w2 hown' hgrow' hnil')
        go_roundw
        case rel =>
          refine ⟨k + 1, by omega, by go_num, ?_, (hbel.alloc hsz _).grown (by assumption) (by simp; omega) (fun j hj => (HO.out.ge j hj).1)⟩
          rw [HT.out]
          exact HO.out.push hy1 (by rw [hlk]; omega) (by rw [hlk]; assumption)
        case measure => simp [intOf]; omega
      · have hkn : k = n := by omega
        subst hkn
        rw [List.take_of_length_le (by rw [HN.out]; omega)] at ho
        go_wp2
        go_ret
        exact ⟨_, rfl, ho, hbel⟩

theorem Bs.gen {w : World} {v : Value} {xs : List Nat} (h : Bs w v xs) : ∃ ao cap, v = .slice ao xs.length cap ∧ (ao = none → xs.length = 0 ∧ cap = 0) ∧
    ∀ ad, ao = some ad → ∀ j u, (u8s xs)[j]? = some u → w.cell? (ad.add j) = some u := by
  obtain ⟨_, _, ⟨rfl, rfl | ⟨a, cap, rfl⟩⟩ | ⟨h0, b, off, cap, rfl, hcap, _, hc⟩⟩ := h
  · exact ⟨none, 0, rfl, fun _ => ⟨rfl, rfl⟩, fun ad h => by cases h⟩
  · exact ⟨some a, cap, rfl, fun h => (by cases h), fun ad _ j u h => by simp [u8s] at h⟩
  · refine ⟨_, _, rfl, fun h => (by cases h), ?_⟩
    rintro ad ⟨⟩ j u hj
    have hjl : j < xs.length := by
      have := (List.getElem?_eq_some_iff.1 hj).1
      simpa [u8s] using this
    rw [u8s_get xs j hjl] at hj
    have e : (⟨b, off, none⟩ : Addr).add j = ⟨b, off + j, none⟩ := by simp [Addr.add]
    rw [e, hc j hjl]; exact hj
theorem Bs.cells {w : World} {ao : Option Addr} {n cap : Nat} {xs : List Nat} (h : Bs w (.slice ao n cap) xs) : ∀ ad, ao = some ad → ∀ j u, (u8s xs)[j]? = some u → w.cell? (ad.add j) = some u := by
  obtain ⟨ao', cap', e, _, h3⟩ := h.gen
  simp only [Value.slice.injEq] at e
  obtain ⟨rfl, _, _⟩ := e
  exact h3
theorem Bs.grown {w w' : World} {row : Option Nat} {v : Value} {xs : List Nat} (h : Bs w v xs) (hg : w.grownBy w' row) (hr : ∀ k, row = some k → v.ownBlock ≠ some k) : Bs w' v xs :=
  h.keep hg.size fun k e hk => hg.block k hk (fun e' => hr k e'.symm e)
theorem u8s_append (xs ys : List Nat) : u8s (xs ++ ys) = u8s xs ++ u8s ys := by simp [u8s]


end Go.Proofs.YtmlladpmecclbaaDoor
/- Bytes copied into a row; a slice of bytes cut at its front. -/
namespace Go.Proofs.YtmlladpmecclbaaDoor
open Go.RowKit

/-- Bytes copied into a row. -/
theorem run_copy_blk {w : World} {g off dLen dCap sCap b so n : Nat} {t : TypeId} {A old B : List Value} {ys : List Nat} (ty : TypeId) (hb : Blk w g t (A ++ old ++ B)) (hA : A.length = off) (hold : old.length = n)
    (hn : n = Nat.min ys.length dLen) (hc : ∀ i, i < ys.length → w.cell? ⟨b, so + i, none⟩ = some (.int .u8 (ys.getD i 0 : Nat))) :
    (Builtin.copy_ #[22, 22] ty #[.slice (some ⟨g, off, none⟩) dLen dCap, .slice (some ⟨b, so, none⟩) ys.length sCap]).run Tryd.prog w = .ok (.int .i64 (n : Int)) (w.setRow g (A ++ u8s (ys.take n) ++ B).toArray) := by
  have hle : n ≤ ys.length := by rw [hn]; exact Nat.min_le_left _ _
  have hlen : (u8s (ys.take n)).length = n := by simp [u8s]; omega
  have hsz : (Tryd.prog.info? 5).map (·.size) = some 1 := by kernel_rfl
  have hr := run_copy_row (P := Tryd.prog) w 22 22 ty 5 g off dLen dCap ⟨b, so, none⟩ ys.length sCap _ t (u8s (ys.take n)) Tryd.underlying22 hsz hb (by rw [hlen]; exact hn)
    (by
      intro j v hv
      have hj : j < n := by have := (List.getElem?_eq_some_iff.1 hv).1; omega
      have e : (⟨b, so, none⟩ : Addr).add j = ⟨b, so + j, none⟩ := by simp [Addr.add]
      rw [e, hc j (by omega), ← hv, u8s_get _ j (by simp; omega)]
      simp [List.getD, hj]) (by rw [hlen]; simp; omega) (u8s_one _)
  have e : (A ++ old ++ B).toArray.toList.take off ++ u8s (ys.take n) ++ (A ++ old ++ B).toArray.toList.drop (off + (u8s (ys.take n)).length) = A ++ u8s (ys.take n) ++ B := by
    subst hA
    rw [hlen, ← hold]
    simp [List.drop_append]
  rw [e, hlen] at hr
  exact hr
theorem Bs.cut {w : World} {b so m cap n : Nat} {ys : List Nat} (h : Bs w (.slice (some ⟨b, so, none⟩) m cap) ys) (hm : ys.length = m) (h0 : 0 < m) (hn : n ≤ m) (hc : m ≤ cap) :
    ∃ p', (∀ w0 : World, (Instr.sliceAt 22 (.slice (some ⟨b, so, none⟩) m cap) (some (.int .i64 (n : Int))) none none).run Tryd.prog w0 = .ok p' w0) ∧ Bs w p' (ys.drop n) ∧ p'.ownBlock = some b ∧ ∃ so' cap', p' = .slice (some ⟨b, so', none⟩) (m - n) cap' := by
  have hu : Tryd.prog.underlying 22 = some (.slice (Tryd.prog.elem 22)) := by kernel_rfl
  have he : Tryd.prog.elem 22 = 5 := by kernel_rfl
  have hs : ∀ w0 : World, (sizeOf 5).run Tryd.prog w0 = .ok 1 w0 := fun w0 => by kernel_rfl
  obtain ⟨h1, h2, ⟨rfl, _⟩ | ⟨h3, b', so1, cap', e, hcap, hb, hcell⟩⟩ := h
  · simp at hm; omega
  simp only [Value.slice.injEq, Option.some.injEq, Addr.mk.injEq, and_true] at e
  obtain ⟨⟨rfl, rfl⟩, _, rfl⟩ := e
  refine ⟨.slice (some (if cap = n then ⟨b, so, none⟩ else ⟨b, so + n, none⟩)) (m - n) (cap - n), ?_, ?_, ?_, ?_⟩
  · intro w0
    rw [run_sliceAt_slice _ _ _ _ _ _ hu, run_slice_l w0 _ _ _ _ hu .i64 (n : Int) (by omega) (by omega), he, hs]
    by_cases hcn : cap = n <;> simp [Result.andThen, sliced, hcn, Addr.add]
  · refine ⟨fun z hz => h1 z (List.mem_of_mem_drop hz), by simp; omega, ?_⟩
    by_cases hmn : m = n
    · left
      refine ⟨by rw [List.drop_eq_nil_iff]; omega, .inr ⟨_, cap - n, by rw [hmn, Nat.sub_self]⟩⟩
    · right
      have hcn : ¬ cap = n := by omega
      refine ⟨by simp; omega, b, so + n, cap - n, by simp [hcn, hm], by simp; omega, hb, fun i hi => ?_⟩
      have hi' : n + i < ys.length := by simp at hi; omega
      have := hcell (n + i) hi'
      rw [Nat.add_assoc, this]
      simp [List.getD]
  · by_cases hcn : cap = n <;> simp [Value.ownBlock, hcn]
  · by_cases hcn : cap = n
    · exact ⟨so, cap - n, by simp [hcn]⟩
    · exact ⟨so + n, cap - n, by simp [hcn]⟩
theorem Bs.front {w : World} {ao : Option Addr} {l cap n : Nat} {zs : List Nat} (h : Bs w (.slice ao l cap) zs) (hn : n ≤ zs.length) (hao : ao = none → cap = 0) : Bs w (.slice ao n cap) (zs.take n) := by
  obtain ⟨h1, h2, h3⟩ := h
  refine ⟨fun z hz => h1 z (List.mem_of_mem_take hz), by rw [List.length_take]; omega, ?_⟩
  by_cases h0 : n = 0
  · subst h0
    refine .inl ⟨rfl, ?_⟩
    cases ao with
    | none => rw [hao rfl]; exact .inl rfl
    | some a => exact .inr ⟨a, cap, rfl⟩
  · rcases h3 with ⟨rfl, _⟩ | ⟨_, b, off, cap', e, hcap, hb, hc⟩
    · simp at hn; omega
    · simp only [Value.slice.injEq] at e
      obtain ⟨rfl, _, rfl⟩ := e
      have hl : (zs.take n).length = n := by rw [List.length_take]; omega
      refine .inr ⟨by omega, b, off, cap, by rw [hl], by omega, hb, fun i hi => ?_⟩
      rw [hl] at hi
      rw [hc i (by omega)]
      simp [List.getD, hi]
end Go.Proofs.YtmlladpmecclbaaDoor
/- bytes.Clone, bytes.Equal; rows made of literals. -/
namespace Go.Proofs.YtmlladpmecclbaaDoor
open Go.RowKit

theorem nil_eql (w : World) (ao : Option Addr) (n cap : Nat) : Sem.run Tryd.prog (binOp .eql 22 (.slice ao n cap) (.slice none 0 0)) w = .ok (.bool ao.isNone) w := by
  have h := run_equal_slice_nil (P := Tryd.prog) w 22 5 ao n cap Tryd.underlying22
  simp [binOp, h]

theorem clone_any {v : Value} {xs : List Nat} {w : World} (hv : Bs w v xs) (hl : xs.length ≤ 140737488355328) :
    Calls Tryd.prog 31 #[v] w fun e w' => ∃ v', e = .returned v' ∧ Ow w' w.heap.size v' xs ∧ Below w.heap.size w w' := by
  obtain ⟨i0, hi, hz0, hz1, hz2⟩ := info_parts u8info
  have HV : Hid (Bs w v xs) := hv
  obtain ⟨ao, cap, rfl, hnone, _⟩ := hv.gen
  clear hv
  cases ao with
  | none =>
    obtain ⟨h0, rfl⟩ := hnone rfl
    have := List.eq_nil_of_length_eq_zero h0
    subst this
    clear hnone
    simp only [List.length_nil]
    have hn0 := nil_eql w none 0 0
    go_enter Tryd.func31, Tryd.ntmps31
    go_wp2
    go_ret
    exact ⟨_, rfl, Ow.nil _ _, Below.refl _ _⟩
  | some ad =>
    obtain ⟨n, hn⟩ : ∃ n, xs.length = n := ⟨_, rfl⟩
    have HN : Hid (xs.length = n) := hn
    have hlit : (w.alloc (.cells #[] 5)).ownsRow w.heap.size 5 1 (.slice (some ⟨w.heap.size, 0, none⟩) 0 0) 0 [] := by
      have := World.ownsRow_lit (base := w.heap.size) (size := 1) (e := 5) w #[] 0 (Nat.le_refl _) (by decide) rfl
      simpa using this
    have hb0 : Below w.heap.size w (w.alloc (.cells #[] 5)) := (Below.refl _ _).alloc (Nat.le_refl _) _
    rw [hn] at hl ⊢
    clear hn hnone
    have hn0 := nil_eql w (some ad) n cap
    go_enter Tryd.func31, Tryd.ntmps31
    go_wp2_with (at_builtin; refine wpList_append_own _ rfl _ _ 22 rfl w.heap.size 5 i0 (.int .u8 0) 1 1 Tryd.underlying22 hi hz0 hz1 hz2 rfl (by decide) _ _ _ rfl hlit ad n cap (u8s xs) rfl (by simp [u8s]; exact HN.out) ((HV.out.below hb0).cells ad rfl) (u8s_one xs) (by unfold maxLen; omega) (by omega) (by simp) ?_; intro v' w2 hown' hgrow' hnil')
    go_ret
    refine ⟨_, rfl, ⟨HV.out.1, HV.out.2.1, ?_⟩, ?_⟩
    · rw [HN.out]; simpa using hown'
    · exact hb0.grown hgrow' (by simp) (fun k hk => by have hk' : some w.heap.size = some k := hk; cases hk'; exact Nat.le_refl _)


def strOf (xs : List Nat) : ByteArray := ⟨(xs.map UInt8.ofNat).toArray⟩
theorem strOf_inj {xs ys : List Nat} (hx : ∀ z ∈ xs, z < 256) (hy : ∀ z ∈ ys, z < 256) (h : strOf xs = strOf ys) : xs = ys := by
  have h1 : xs.map UInt8.ofNat = ys.map UInt8.ofNat := by
    have := congrArg (fun b : ByteArray => b.data.toList) h
    simpa [strOf] using this
  have h2 := congrArg (List.map UInt8.toNat) h1
  rw [List.map_map, List.map_map] at h2
  have e : ∀ {l : List Nat}, (∀ z ∈ l, z < 256) → l.map (UInt8.toNat ∘ UInt8.ofNat) = l := by
    intro l hl
    induction l with
    | nil => rfl
    | cons a l ih =>
      rw [List.map_cons, ih (fun z hz => hl z (List.mem_cons_of_mem _ hz))]
      congr 1
      show (UInt8.ofNat a).toNat = a
      have := hl a List.mem_cons_self
      simp; omega
  rw [e hx, e hy] at h2
  exact h2
theorem convert_bs {w : World} {v : Value} {xs : List Nat} (h : Bs w v xs) : (convert 22 9 v).run Tryd.prog w = .ok (.string (strOf xs)) w := by
  have hlt := h.1
  obtain ⟨ao, cap, rfl, hnone, hc⟩ := h.gen
  cases ao with
  | none =>
    obtain ⟨h0, rfl⟩ := hnone rfl
    have := List.eq_nil_of_length_eq_zero h0
    subst this
    rw [run_convert_bytes_string w _ _ 5 none _ _ Tryd.underlying22 Tryd.underlying5 Tryd.underlying9]
    simp [Conv.bytesToString, strOf]
    rfl
  | some ad =>
    have hl : xs.length = (xs.map UInt8.ofNat).length := by simp
    rw [hl]
    refine run_convert_bytes_back w _ _ 5 ad cap (xs.map UInt8.ofNat) Tryd.underlying22 Tryd.underlying5 Tryd.underlying9 (fun j hj => ?_)
    have hj' : j < xs.length := by simpa using hj
    rw [hc ad rfl j (.int .u8 (xs.getD j 0 : Nat)) (u8s_get xs j hj')]
    have := hlt _ (getD_mem xs j hj')
    have e : xs.getD j 0 = xs[j] := by simp [List.getD, hj']
    rw [e] at this ⊢
    simp
    omega
theorem equal_any {v u : Value} {xs ys : List Nat} {w : World} (hv : Bs w v xs) (hu : Bs w u ys) :
    Calls Tryd.prog 67 #[v, u] w fun e w' => e = .returned (.bool (decide (xs = ys))) ∧ w' = w := by
  have c1 := convert_bs hv
  have c2 := convert_bs hu
  have hq : ((strOf xs).toList == (strOf ys).toList) = decide (xs = ys) := by
    by_cases h : xs = ys
    · rw [h]; simp
    · rw [decide_eq_false h]
      simp only [beq_eq_false_iff_ne, ne_eq]
      intro e
      rw [ByteArray.toList_eq, ByteArray.toList_eq] at e
      exact h (strOf_inj hv.1 hu.1 (WideShapes.bytes_inj e))
  generalize strOf xs = X at *
  generalize strOf ys = Y at *
  generalize decide (xs = ys) = B at *
  go_enter Tryd.func67, Tryd.ntmps67
  go_wp2
  go_ret
  exact ⟨rfl, rfl⟩

/-- A row made of some values. -/
theorem run_rowlit {t e : TypeId} {s : Nat} {z : Value} {ie : TypeInfo} (w : World) (hu : Tryd.prog.underlying t = some (.slice e)) (hie : Tryd.prog.info? e = some ie) (hz : ie.zero = some z) (hsz : ie.size = s) (hs : 0 < s) (vs : List Value) (hv : ∀ v ∈ vs, v.cells.size = s) (h0 : 0 < vs.length) (hl : vs.length * s ≤ 16777216)
    (parts : Array (Nat × Value)) (hp : parts.toList = (vs.zipIdx 0).map fun x => (x.2, x.1)) :
    (Instr.buildSlice t vs.length parts).run Tryd.prog w = .ok (.slice (some ⟨w.heap.size, 0, none⟩) vs.length vs.length) (w.alloc (.cells (vs.flatMap fun v => v.cells.toList).toArray e)) := by
  subst hsz
  have h1 : ¬ vs.length * ie.size > 2 ^ 24 := by
    have : (2 : Nat) ^ 24 = 16777216 := by decide
    omega
  have h2 : ¬ vs.length * ie.size = 0 := by
    have := Nat.mul_pos h0 hs
    omega
  refine run_buildSlice w t e vs.length parts _ ie z hu hie hz h1 h2 ?_
  rw [hp]
  exact Great.fill_whole hs vs _ hv (by simp)
end Go.Proofs.YtmlladpmecclbaaDoor
/- General: own rows, tags of blocks, single operations. -/
namespace Go.Proofs.YtmlladpmecclbaaDoor
open Go.RowKit

theorem ownsRow_but {R : Nat → Prop} {w w' : World} {base e s n : Nat} {v : Value} {xs : List Value} (h : w.ownsRow base e s v n xs) (k : But R w w') (hr : ∀ j, v.ownBlock = some j → ¬ R j) : w'.ownsRow base e s v n xs := by
  obtain ⟨h1, h2 | ⟨g, cap, cur, rfl, hg, hh, r⟩⟩ := h
  · exact ⟨h1, .inl h2⟩
  · exact ⟨h1, .inr ⟨g, cap, cur, rfl, hg, (k.block g (lt_of_block hh) (hr g rfl)).trans hh, r⟩⟩
/-- An own row whose block lies in Fr. -/
structure RowOf (w : World) (Fr : Nat → Prop) (e s : Nat) (v : Value) (n : Nat) (xs : List Value) : Prop where
  own : w.ownsRow 0 e s v n xs
  inF : ∀ k, v.ownBlock = some k → Fr k
theorem RowOf.but {R Fr Fr' : Nat → Prop} {w w' : World} {e s n : Nat} {v : Value} {xs : List Value} (h : RowOf w Fr e s v n xs) (k : But R w w') (hr : ∀ j, Fr j → ¬ R j) (hf : ∀ j, Fr j → Fr' j) : RowOf w' Fr' e s v n xs :=
  ⟨ownsRow_but h.own k (fun j hj => hr j (h.inF j hj)), fun j hj => hf j (h.inF j hj)⟩
theorem RowOf.nil (w : World) (Fr : Nat → Prop) (e s : Nat) : RowOf w Fr e s (.slice none 0 0) 0 [] := ⟨World.ownsRow_nil _ _ _ _, fun k hk => by cases hk⟩
theorem RowOf.shape {w : World} {Fr : Nat → Prop} {e s n : Nat} {v : Value} {xs : List Value} (h : RowOf w Fr e s v n xs) : ∃ ao cap, v = .slice ao n cap ∧ (0 < n → ∃ g, ao = some ⟨g, 0, none⟩ ∧ Fr g ∧ g < w.heap.size ∧ ∀ j u, xs[j]? = some u → w.cell? ⟨g, j, none⟩ = some u) := by
  have hc := h.own
  obtain ⟨⟨h1, ⟨rfl, rfl⟩ | ⟨g, cap, cur, rfl, hg, hh, r⟩⟩, hF⟩ := h
  · exact ⟨none, 0, rfl, fun h => absurd h (by omega)⟩
  · refine ⟨_, cap, rfl, fun _ => ⟨g, rfl, hF g rfl, lt_of_block hh, fun j u hj => ?_⟩⟩
    have := hc.cells (g := g) rfl j u hj
    have e : (⟨g, 0, none⟩ : Addr).add j = ⟨g, j, none⟩ := by simp [Addr.add]; exact fun h => h.symm
    rwa [e] at this

theorem flat_at {α : Type} {f : α → List Value} {s : Nat} : ∀ (L : List α), (∀ e ∈ L, (f e).length = s) → ∀ i e c u, L[i]? = some e → (f e)[c]? = some u → (L.flatMap f)[i * s + c]? = some u
  | [], _, i, e, c, u, h, _ => by simp at h
  | x :: L, hl, i, e, c, u, h, hu => by
    rw [List.flatMap_cons]
    cases i with
    | zero =>
      obtain rfl : x = e := by simpa using h
      rw [Nat.zero_mul, Nat.zero_add, List.getElem?_append_left (List.getElem?_eq_some_iff.1 hu).1]
      exact hu
    | succ i =>
      have hx := hl x List.mem_cons_self
      rw [List.getElem?_append_right (by rw [hx, Nat.succ_mul]; omega), hx]
      have e2 : (i + 1) * s + c - s = i * s + c := by rw [Nat.succ_mul]; omega
      rw [e2]
      exact flat_at L (fun e he => hl e (List.mem_cons_of_mem _ he)) i e c u (by simpa using h) hu
theorem flat_len {α : Type} {f : α → List Value} {s : Nat} : ∀ (L : List α), (∀ e ∈ L, (f e).length = s) → (L.flatMap f).length = L.length * s
  | [], _ => by simp
  | x :: L, hl => by
    rw [List.flatMap_cons, List.length_append, hl x List.mem_cons_self, flat_len L (fun e he => hl e (List.mem_cons_of_mem _ he)), List.length_cons, Nat.succ_mul]; omega

/-- Whose a block is. -/
inductive Tag where
  | none | dev | sto | wri | map | imr | pic | log | inm | byt | cla | sem | twi | blo | str
  | row (b : Nat)
  | use (e : Nat) (n : List Nat)
  deriving DecidableEq
abbrev Owner := Nat → Tag
def Is (own : Owner) (t : Tag) : Nat → Prop := fun b => own b = t
def tagAt (own : Owner) (g : Nat) (t : Tag) : Owner := fun b => if b = g then t else own b
def Ext (own own' : Owner) : Prop := ∀ b, own b ≠ .none → own' b = own b
theorem Ext.refl (own : Owner) : Ext own own := fun _ _ => rfl
theorem Ext.trans {a b c : Owner} (h : Ext a b) (k : Ext b c) : Ext a c := fun i hi => (k i (by rw [h i hi]; exact hi)).trans (h i hi)
theorem Ext.is {own own' : Owner} (h : Ext own own') {t : Tag} (ht : t ≠ .none) : ∀ b, Is own t b → Is own' t b := fun b hb => (h b (by rw [hb]; exact ht)).trans hb
theorem Ext.tagAt {own : Owner} {g : Nat} {t : Tag} (h : own g = .none ∨ own g = t) : Ext own (tagAt own g t) := fun b hb => by
  unfold Go.Proofs.YtmlladpmecclbaaDoor.tagAt
  split
  · rename_i e
    subst e
    rcases h with h | h
    · exact absurd h hb
    · exact h.symm
  · rfl
def tagV (own : Owner) (v : Value) (t : Tag) : Owner := match v.ownBlock with | some k => tagAt own k t | none => own
theorem Ext.tagV {own : Owner} {v : Value} {t : Tag} (h : ∀ k, v.ownBlock = some k → own k = .none ∨ own k = t) : Ext own (tagV own v t) := by
  unfold Go.Proofs.YtmlladpmecclbaaDoor.tagV
  cases hv : v.ownBlock with
  | none => exact Ext.refl _
  | some k => exact Ext.tagAt (h k hv)
theorem tagV_own {own : Owner} {v : Value} {t : Tag} {k : Nat} (h : v.ownBlock = some k) : tagV own v t k = t := by
  unfold tagV; rw [h]; simp [tagAt]
theorem tagAt_own {own : Owner} {g : Nat} {t : Tag} : tagAt own g t g = t := by simp [tagAt]
/-- Only what is new has a new tag. -/
def Fresh (w : World) (own own' : Owner) : Prop := ∀ b, own' b ≠ own b → w.heap.size ≤ b
theorem Fresh.refl (w : World) (own : Owner) : Fresh w own own := fun _ h => absurd rfl h
theorem Fresh.tagAt {w : World} {own own' : Owner} {g : Nat} {t : Tag} (h : Fresh w own own') (hg : w.heap.size ≤ g ∨ own g = t) : Fresh w own (tagAt own' g t) := fun b hb => by
  unfold Go.Proofs.YtmlladpmecclbaaDoor.tagAt at hb
  split at hb
  · rename_i e
    subst e
    rcases hg with hg | hg
    · exact hg
    · exact absurd hg.symm hb
  · exact h b hb
theorem Fresh.tagV {w : World} {own own' : Owner} {v : Value} {t : Tag} (h : Fresh w own own') (hg : ∀ k, v.ownBlock = some k → w.heap.size ≤ k ∨ own k = t) : Fresh w own (tagV own' v t) := by
  unfold Go.Proofs.YtmlladpmecclbaaDoor.tagV
  cases hv : v.ownBlock with
  | none => exact h
  | some k => exact h.tagAt (hg k hv)
def Top (w : World) (own : Owner) : Prop := ∀ b, w.heap.size ≤ b → own b = .none
theorem Top.grow {w w' : World} {own : Owner} (h : Top w own) (hs : w.heap.size ≤ w'.heap.size) : Top w' own := fun b hb => h b (Nat.le_trans hs hb)
theorem Top.lt {w : World} {own : Owner} (h : Top w own) {b : Nat} (hb : own b ≠ .none) : b < w.heap.size := by
  by_cases hl : b < w.heap.size
  · exact hl
  · exact absurd (h b (by omega)) hb
theorem Top.tagAt {w : World} {own : Owner} {g : Nat} {t : Tag} (h : Top w own) (hg : g < w.heap.size) : Top w (tagAt own g t) := fun b hb => by
  unfold Go.Proofs.YtmlladpmecclbaaDoor.tagAt
  rw [if_neg (by omega)]
  exact h b hb
theorem Top.tagV {w : World} {own : Owner} {v : Value} {t : Tag} (h : Top w own) (hg : ∀ k, v.ownBlock = some k → k < w.heap.size) : Top w (tagV own v t) := by
  unfold Go.Proofs.YtmlladpmecclbaaDoor.tagV
  cases hv : v.ownBlock with
  | none => exact h
  | some k => exact h.tagAt (hg k hv)

/-- Bytes whose memory lies in F. -/
def Bf (w : World) (F : Nat → Prop) (v : Value) (xs : List Nat) : Prop := Bs w v xs ∧ (0 < xs.length → ∀ j, v.ownBlock = some j → F j)
theorem Bf.but {F R : Nat → Prop} {w w' : World} {v : Value} {xs : List Nat} (h : Bf w F v xs) (k : But R w w') (hr : ∀ j, F j → ¬ R j) : Bf w' F v xs := by
  refine ⟨?_, h.2⟩
  by_cases h0 : 0 < xs.length
  · exact h.1.but k (fun j hj _ => hr j (h.2 h0 j hj))
  · obtain ⟨⟨h1, h2, h3 | h3⟩, _⟩ := h
    · exact ⟨h1, h2, .inl h3⟩
    · exact absurd h3.1 h0
theorem But.set1 (w : World) (g i : Nat) (u : Value) : But (· = g) w (w.setCell ⟨g, i, none⟩ u) :=
  But.setCell (R := (· = g)) (p := ⟨g, i, none⟩) (But.refl _ w) (fun _ => rfl) u
section
variable {P : Program} {w w' : World} {o : Oper} {ρ : Operand → Value}
theorem run_load_arr {T : TypeId} {n l : Nat} {e : TypeId} (hu : Tryd.prog.underlying T = some (.array l e)) (hi : (Tryd.prog.info? T).map (·.size) = some n) {x : Operand} {ad : Addr} {D : List Nat} (hc : ∀ j u, (u8s D)[j]? = some u → w.cell? (ad.add j) = some u) (hD : D.length = n)
    (ho : o.op = .load T x) (hx : ρ x = .pointer (some ad)) : (execOp ρ o).run Tryd.prog w = .ok (.value (.agg (u8s D).toArray)) w := by
  have h := run_loadVar_cells w ad T (u8s D) _ hc hu rfl (by rw [hi]; simp [u8s, hD])
  unfold execOp
  simp only [ho, hx, Instr.loadAt, Instr.sureAddr, Sem.run_bind, Sem.run_pure, Result.andThen_ok, h]
theorem exec_lookup {t : TypeId} {m x : Operand} {c : Bool} {vm key r : Value} (ho : o.op = .lookup t m x c) (hm : ρ m = vm) (hx : ρ x = key) (h : (Instr.lookup t vm key c).run P w = .ok r w) : (execOp ρ o).run P w = .ok (.value r) w := by
  simp [execOp, ho, hm, hx, h, Result.andThen]
theorem exec_mapUpdate {t : TypeId} {m x y : Operand} {vm key v : Value} (ho : o.op = .mapUpdate t m x y) (hm : ρ m = vm) (hx : ρ x = key) (hy : ρ y = v) (h : (Instr.mapUpdate t vm key v).run P w = .ok () w') : (execOp ρ o).run P w = .ok .skip w' := by
  simp [execOp, ho, hm, hx, hy, h, Result.andThen]
end
/-- What lies in an own row is appended to. -/
structure Appd (w w' : World) (e s : Nat) (v v' : Value) (n : Nat) (xs : List Value) : Prop where
  own : w'.ownsRow 0 e s v' n xs
  but : But (fun b => v.ownBlock = some b) w w'
  at' : v'.ownBlock = v.ownBlock ∨ v'.ownBlock = some w.heap.size
  lt : ∀ k, v'.ownBlock = some k → k < w'.heap.size
theorem exec_append {w : World} {o : Oper} {ρ : Operand → Value} {t e : TypeId} {s bytes : Nat} {z : Value} (ht : Tryd.prog.underlying t = some (.slice e)) (hinf : (Tryd.prog.info? e).map (fun i => (i.zero, i.size, i.bytes)) = some (some z, s, bytes)) (hzs : z.cells.size = s) (hs0 : 0 < s)
    {x y : Operand} (ho : o.op = .call { callee := .builtin .append, args := #[x, y], argTypes := #[t, t] }) {v : Value} {n : Nat} {xs : List Value} (hx : ρ x = v) (hv : w.ownsRow 0 e s v n xs)
    {ad : Addr} {m c : Nat} {news : List Value} (hy : ρ y = .slice (some ad) m c) (hl : news.length = m * s) (hc : ∀ j u, news[j]? = some u → w.cell? (ad.add j) = some u) (h1 : ∀ u ∈ news, u.oneCell' = true) (hn : n + m ≤ 1000000) (hb : bytes ≤ 1000) :
    ∃ v' w', (execOp ρ o).run Tryd.prog w = .ok (.value v') w' ∧ Appd w w' e s v v' (n + m) (xs ++ news) := by
  obtain ⟨i0, hi, hz0, hz1, hz2⟩ := info_parts hinf
  have hmul : (n + m) * bytes ≤ 1000000 * 1000 := Nat.mul_le_mul hn hb
  obtain ⟨v', w', hr, h2, h3, _, h5⟩ := run_append_own_at (P := Tryd.prog) w 0 t o.type e i0 z s bytes ht hi hz0 hz1 hz2 hzs hs0 v n xs hv ad m c news hl hc h1 (by unfold maxLen; omega) (by omega) (Nat.zero_le _)
  refine ⟨v', w', ?_, h2, ⟨h3.os, h3.tape, h3.output, h3.size, fun k hk hne => h3.block k hk (fun e => hne e.symm)⟩, h5, fun k hk => (h2.lt k hk).2⟩
  unfold execOp
  simp only [ho, resolve, invoke, builtin, Sem.run_bind, Sem.run_pure, Result.andThen_ok, List.map_toArray, List.map_cons, List.map_nil, hx, hy, hr]
theorem infS : (Tryd.prog.info? 22).map (fun i => (i.zero, i.size, i.bytes)) = some (some (.slice none 0 0), 1, 24) := by kernel_rfl
/-- A row of one, or of two, is made. -/
theorem exec_row1 {w : World} {o : Oper} {ρ : Operand → Value} {t e : TypeId} {s bytes : Nat} {z : Value} (ht : Tryd.prog.underlying t = some (.slice e)) (hinf : (Tryd.prog.info? e).map (fun i => (i.zero, i.size, i.bytes)) = some (some z, s, bytes)) (hs0 : 0 < s) (hs1 : s ≤ 1000)
    {x : Operand} (ho : o.op = .buildSlice t 1 #[(0, x)]) {v : Value} (hx : ρ x = v) (hv : v.cells.size = s) : (execOp ρ o).run Tryd.prog w = .ok (.value (.slice (some ⟨w.heap.size, 0, none⟩) 1 1)) (w.alloc (.cells v.cells e)) := by
  obtain ⟨i0, hi, hz0, hz1, _⟩ := info_parts hinf
  have h := run_rowlit w ht hi hz0 hz1 hs0 [v] (by simpa using hv) (by simp) (by simp; omega) #[(0, v)] rfl
  unfold execOp
  simp only [ho, List.map_toArray, List.map_cons, List.map_nil, hx]
  simp at h
  simp [h, Result.andThen]
theorem exec_row2 {w : World} {o : Oper} {ρ : Operand → Value} {t e : TypeId} {s bytes : Nat} {z : Value} (ht : Tryd.prog.underlying t = some (.slice e)) (hinf : (Tryd.prog.info? e).map (fun i => (i.zero, i.size, i.bytes)) = some (some z, s, bytes)) (hs0 : 0 < s) (hs1 : s ≤ 1000)
    {x y : Operand} (ho : o.op = .buildSlice t 2 #[(0, x), (1, y)]) {v u : Value} (hx : ρ x = v) (hy : ρ y = u) (hv : v.cells.size = s) (hu : u.cells.size = s) : (execOp ρ o).run Tryd.prog w = .ok (.value (.slice (some ⟨w.heap.size, 0, none⟩) 2 2)) (w.alloc (.cells (v.cells.toList ++ u.cells.toList).toArray e)) := by
  obtain ⟨i0, hi, hz0, hz1, _⟩ := info_parts hinf
  have hvu : ∀ x ∈ [v, u], x.cells.size = s := by
    intro x hx
    rcases List.mem_cons.1 hx with h | h
    · rw [h]; exact hv
    · rw [show x = u by simpa using h]; exact hu
  have h := run_rowlit w ht hi hz0 hz1 hs0 [v, u] hvu (by simp) (by simp; omega) #[(0, v), (1, u)] rfl
  have hfl : ([v, u].flatMap fun v => v.cells.toList) = v.cells.toList ++ u.cells.toList := by simp
  rw [hfl] at h
  unfold execOp
  simp only [ho, List.map_toArray, List.map_cons, List.map_nil, hx, hy]
  have h' : (Instr.buildSlice t 2 #[(0, v), (1, u)]).run Tryd.prog w = .ok (.slice (some ⟨w.heap.size, 0, none⟩) 2 2) (w.alloc (.cells (v.cells.toList ++ u.cells.toList).toArray e)) := h
  simp only [Sem.run_bind, h', Result.andThen_ok, Sem.run_pure]
/-- A cell of a block is stored into. -/
theorem exec_store {w : World} {o : Oper} {ρ : Operand → Value} {t T : TypeId} (hsz : (Tryd.prog.info? t).map (·.size) = some 1) {x y : Operand} (ho : o.op = .store t x y) {g i : Nat} {v : Value} {L : List Value} (hx : ρ x = .pointer (some ⟨g, i, none⟩)) (hy : ρ y = v) (hv : v.oneCell' = true) (hb : Blk w g T L) (hi : i < L.length) :
    (execOp ρ o).run Tryd.prog w = .ok .skip (w.setCell ⟨g, i, none⟩ v) := by
  have hc : w.cell? ⟨g, i, none⟩ = some L[i] := by rw [hb.cell, List.getElem?_eq_getElem hi]
  have hf := hb.free i
  have hcs : v.cells = #[v] := by cases v <;> first | rfl | cases hv
  have ea : (⟨g, i, none⟩ : Addr).add 0 = ⟨g, i, none⟩ := by simp [Addr.add]
  have hst : (store ⟨g, i, none⟩ v).run Tryd.prog w = .ok () (w.setCell ⟨g, i, none⟩ v) := by
    rw [run_store Tryd.prog w _ v _ hv, hc, hf]
    simp
  cases hq : Tryd.prog.info? t with
  | none => simp [hq] at hsz
  | some ti =>
    have hs : ti.size = 1 := by simpa [hq] using hsz
    unfold execOp
    simp [ho, hx, hy, Instr.storeAt, Instr.sureAddr, storeVar, sizeOf, typeInfo, hq, hs, hcs, storeCells, ea, hst, Result.andThen]
/-- A row that was made of literals. -/
theorem RowOf.lit {w : World} {Fr : Nat → Prop} {e s n g : Nat} {L : List Value} (hb : Blk w g e L) (hl : L.length = n * s) (hn : n ≤ 1000) (hF : Fr g) : RowOf w Fr e s (.slice (some ⟨g, 0, none⟩) n n) n L :=
  ⟨⟨hl, .inr ⟨g, n, L.toArray, rfl, Nat.zero_le _, hb, Nat.le_refl _, by unfold maxLen; omega, by simpa using hl, by simp [← hl]⟩⟩, fun k hk => by cases hk; exact hF⟩
section
variable {w : World} {o : Oper} {ρ : Operand → Value} {K' : Value → World → Prop}
/-- The like as turns of a chain. -/
theorem turn_append {t e : TypeId} {s bytes : Nat} {z : Value} (ht : Tryd.prog.underlying t = some (.slice e)) (hinf : (Tryd.prog.info? e).map (fun i => (i.zero, i.size, i.bytes)) = some (some z, s, bytes)) (hzs : z.cells.size = s) (hs0 : 0 < s)
    {x y : Operand} (ho : o.op = .call { callee := .builtin .append, args := #[x, y], argTypes := #[t, t] }) {v : Value} {n : Nat} {xs : List Value} (hx : ρ x = v) (hv : w.ownsRow 0 e s v n xs)
    {ad : Addr} {m c : Nat} {news : List Value} (hy : ρ y = .slice (some ad) m c) (hl : news.length = m * s) (hc : ∀ j u, news[j]? = some u → w.cell? (ad.add j) = some u) (h1 : ∀ u ∈ news, u.oneCell' = true) (hn : n + m ≤ 1000000) (hb : bytes ≤ 1000)
    (hk : ∀ v' w', Appd w w' e s v v' (n + m) (xs ++ news) → K' v' w') : ∃ v' w', ((execOp ρ o).run Tryd.prog w = .ok (.value v') w' ∨ ((execOp ρ o).run Tryd.prog w = .ok .skip w' ∧ v' = undef)) ∧ K' v' w' := by
  obtain ⟨v', w', hr, ha⟩ := exec_append ht hinf hzs hs0 ho hx hv hy hl hc h1 hn hb
  exact ⟨v', w', .inl hr, hk v' w' ha⟩
theorem turn_row1 {t e : TypeId} {s bytes : Nat} {z : Value} (ht : Tryd.prog.underlying t = some (.slice e)) (hinf : (Tryd.prog.info? e).map (fun i => (i.zero, i.size, i.bytes)) = some (some z, s, bytes)) (hs0 : 0 < s) (hs1 : s ≤ 1000)
    {x : Operand} (ho : o.op = .buildSlice t 1 #[(0, x)]) {v : Value} (hx : ρ x = v) (hv : v.cells.size = s) (hk : K' (.slice (some ⟨w.heap.size, 0, none⟩) 1 1) (w.alloc (.cells v.cells e))) :
    ∃ v' w', ((execOp ρ o).run Tryd.prog w = .ok (.value v') w' ∨ ((execOp ρ o).run Tryd.prog w = .ok .skip w' ∧ v' = undef)) ∧ K' v' w' :=
  ⟨_, _, .inl (exec_row1 ht hinf hs0 hs1 ho hx hv), hk⟩
theorem turn_row2 {t e : TypeId} {s bytes : Nat} {z : Value} (ht : Tryd.prog.underlying t = some (.slice e)) (hinf : (Tryd.prog.info? e).map (fun i => (i.zero, i.size, i.bytes)) = some (some z, s, bytes)) (hs0 : 0 < s) (hs1 : s ≤ 1000)
    {x y : Operand} (ho : o.op = .buildSlice t 2 #[(0, x), (1, y)]) {v u : Value} (hx : ρ x = v) (hy : ρ y = u) (hv : v.cells.size = s) (hu : u.cells.size = s) (hk : K' (.slice (some ⟨w.heap.size, 0, none⟩) 2 2) (w.alloc (.cells (v.cells.toList ++ u.cells.toList).toArray e))) :
    ∃ v' w', ((execOp ρ o).run Tryd.prog w = .ok (.value v') w' ∨ ((execOp ρ o).run Tryd.prog w = .ok .skip w' ∧ v' = undef)) ∧ K' v' w' :=
  ⟨_, _, .inl (exec_row2 ht hinf hs0 hs1 ho hx hy hv hu), hk⟩
theorem turn_store {t T : TypeId} (hsz : (Tryd.prog.info? t).map (·.size) = some 1) {x y : Operand} (ho : o.op = .store t x y) {g i : Nat} {v : Value} {L : List Value} (hx : ρ x = .pointer (some ⟨g, i, none⟩)) (hy : ρ y = v) (hv : v.oneCell' = true) (hb : Blk w g T L) (hi : i < L.length) (hk : K' undef (w.setCell ⟨g, i, none⟩ v)) :
    ∃ v' w', ((execOp ρ o).run Tryd.prog w = .ok (.value v') w' ∨ ((execOp ρ o).run Tryd.prog w = .ok .skip w' ∧ v' = undef)) ∧ K' v' w' :=
  ⟨undef, _, .inr ⟨exec_store hsz ho hx hy hv hb hi, rfl⟩, hk⟩
theorem turn_put {t : TypeId} {m x y : Operand} {vm key v : Value} {w' : World} (ho : o.op = .mapUpdate t m x y) (hm : ρ m = vm) (hx : ρ x = key) (hy : ρ y = v) (h : (Instr.mapUpdate t vm key v).run Tryd.prog w = .ok () w') (hk : K' undef w') :
    ∃ v' w', ((execOp ρ o).run Tryd.prog w = .ok (.value v') w' ∨ ((execOp ρ o).run Tryd.prog w = .ok .skip w' ∧ v' = undef)) ∧ K' v' w' :=
  ⟨undef, _, .inr ⟨exec_mapUpdate ho hm hx hy h, rfl⟩, hk⟩
end
theorem ownsRow_one {w : World} {base e s n : Nat} {v : Value} {xs : List Value} (h : w.ownsRow base e s v n xs) : v.oneCell' = true := by
  obtain ⟨_, ⟨rfl, _⟩ | ⟨g, cap, cur, rfl, _⟩⟩ := h <;> rfl
theorem Bs.cs {w : World} {v : Value} {xs : List Nat} (h : Bs w v xs) : v.cells = #[v] := by
  obtain ⟨ao, cap, rfl, _⟩ := h.gen
  rfl
theorem ownsRow_grow {w w' : World} {base e s n : Nat} {v : Value} {xs : List Value} (h : w.ownsRow base e s v n xs) (k : Grow w w') : w'.ownsRow base e s v n xs := ownsRow_but h k (fun _ _ h => h)
/-- A build, by what it runs to. -/
theorem wpList_build_run {ops : Array Oper} {rest : List Oper} {o : Oper} {a : Act} {w : World} {Q : Exit → Act → World → Prop} (hgd : o.guard = none) (t : TypeId) (parts : List (Nat × Operand)) (ho : o.op = .build t parts.toArray) (ps : List (Nat × Value)) (hp : (parts.map fun x => (x.1, a.eval x.2)) = ps) (v : Value) (hr : (Instr.build t ps.toArray).run Tryd.prog w = .ok v w)
    (h : wpList Tryd.prog ops Q rest (a.put o.dst v) w) : wpList Tryd.prog ops Q (o :: rest) a w :=
  wpList_plain hgd fun _ hK => by
    unfold Oper.wp execOp
    simp only [ho, List.map_toArray]
    rw [hp]
    simp only [Sem.run_bind, hr, Result.andThen_ok, Sem.run_pure]
    exact hK _ _ h
theorem exec_build {w : World} {o : Oper} {ρ : Operand → Value} (t : TypeId) (parts : List (Nat × Operand)) (ho : o.op = .build t parts.toArray) (ps : List (Nat × Value)) (hp : (parts.map fun x => (x.1, ρ x.2)) = ps) (v : Value) (hr : (Instr.build t ps.toArray).run Tryd.prog w = .ok v w) : (execOp ρ o).run Tryd.prog w = .ok (.value v) w := by
  unfold execOp
  simp only [ho, List.map_toArray]
  rw [hp]
  simp only [Sem.run_bind, hr, Result.andThen_ok, Sem.run_pure]
theorem Bs.one {w : World} {v : Value} {xs : List Nat} (h : Bs w v xs) : v.oneCell' = true := by
  obtain ⟨ao, cap, rfl, _⟩ := h.gen
  rfl
theorem Bs.sl {w : World} {v : Value} {xs : List Nat} (h : Bs w v xs) : ∃ ao n cap, v = .slice ao n cap := by
  obtain ⟨ao, cap, rfl, _⟩ := h.gen
  exact ⟨_, _, _, rfl⟩
/-- An own row laid open, and shut. -/
theorem Ow.opn {w : World} {base : Nat} {v : Value} {zs : List Nat} (h : Ow w base v zs) (h0 : 0 < zs.length) :
    ∃ g cap R, v = .slice (some ⟨g, 0, none⟩) zs.length cap ∧ base ≤ g ∧ Blk w g 5 (u8s zs ++ R) ∧ R.length = cap - zs.length ∧ zs.length ≤ cap ∧ cap ≤ maxLen := by
  obtain ⟨hl, ⟨_, h1⟩ | ⟨g, cap, cur, rfl, hge, hb, h1, h2, h3, h4⟩⟩ := h.own
  · omega
  · refine ⟨g, cap, cur.toList.drop zs.length, rfl, hge, ?_, by rw [List.length_drop, Array.length_toList, h3, Nat.mul_one], h1, h2⟩
    rw [Nat.mul_one] at h4
    have e : u8s zs ++ cur.toList.drop zs.length = cur.toList := by rw [← h4, List.take_append_drop]
    show w.heap[g]? = some (.cells (u8s zs ++ cur.toList.drop zs.length).toArray _ _)
    rw [e, hb]
theorem Ow.shu {w : World} {base g cap : Nat} {zs : List Nat} {R : List Value} (hb : Blk w g 5 (u8s zs ++ R)) (hg : base ≤ g) (hz : ∀ z ∈ zs, z < 256) (hl : zs.length ≤ 281474976710656) (hR : R.length = cap - zs.length) (hc : zs.length ≤ cap) (hm : cap ≤ maxLen) :
    Ow w base (.slice (some ⟨g, 0, none⟩) zs.length cap) zs := by
  refine ⟨hz, hl, by simp [u8s], .inr ⟨g, cap, (u8s zs ++ R).toArray, rfl, hg, hb, hc, hm, ?_, ?_⟩⟩
  · rw [List.size_toArray, List.length_append, hR]; unfold u8s; rw [List.length_map]; omega
  · rw [Nat.mul_one]
    show (u8s zs ++ R).take zs.length = u8s zs
    have hs : (u8s zs).length = zs.length := by simp [u8s]
    rw [← hs, List.take_append_of_le_length (Nat.le_refl _), List.take_of_length_le (Nat.le_refl _)]
/-- A byte of an own row turned. -/
theorem Ow.setA {w : World} {base g n cap i y : Nat} {zs : List Nat} (h : Ow w base (.slice (some ⟨g, 0, none⟩) n cap) zs) (hn : zs.length = n) (hi : i < zs.length) (hy : y < 256) : Ow (w.setCell ⟨g, i, none⟩ (.int .u8 (y : Int))) base (.slice (some ⟨g, 0, none⟩) n cap) (zs.set i y) := by
  obtain ⟨g', cap', R, e, hge, hb, hR, hc, hm⟩ := h.opn (by omega)
  simp only [Value.slice.injEq, Option.some.injEq, Addr.mk.injEq, and_true] at e
  obtain ⟨rfl, e2, rfl⟩ := e
  have h2 := hb.set i (.int .u8 (y : Int))
  rw [List.set_append_left _ _ (by simp [u8s]; exact hi), u8s_set] at h2
  have h3 := Ow.shu (base := base) (cap := cap) h2 hge (by
    intro z hz
    rcases List.mem_or_eq_of_mem_set hz with h4 | h4
    · exact h.lt z h4
    · rw [h4]; exact hy) (by rw [List.length_set]; exact h.len) (by rw [List.length_set]; exact hR) (by rw [List.length_set]; exact hc) hm
  rw [List.length_set, hn] at h3
  exact h3
theorem u8_next : ∀ z : Nat, z < 256 → IntKind.u8.wrap ((z : Int) + 1) = (((z + 1) % 256 : Nat) : Int) := by decide +kernel
theorem exec_slc {w : World} {o : Oper} {ρ : Operand → Value} {T : TypeId} {x : Operand} {lo hi : Option Operand} (ho : o.op = .slice T x lo hi none) {v r : Value} {l h : Option Value} (hx : ρ x = v) (hl : lo.map ρ = l) (hh : hi.map ρ = h) (hr : (Instr.sliceAt T v l h none).run Tryd.prog w = .ok r w) : (execOp ρ o).run Tryd.prog w = .ok (.value r) w := by
  unfold execOp
  simp only [ho, Option.map_none, hx, hl, hh]
  simp only [Sem.run_bind, hr, Result.andThen_ok, Sem.run_pure]
theorem addr_add (b o c : Nat) : (⟨b, o, none⟩ : Addr).add c = ⟨b, o + c, none⟩ := by
  by_cases hz : c = 0
  · subst hz; simp [Addr.add]
  · simp [Addr.add]; exact fun h => absurd h hz
theorem Bs.own {w : World} {v : Value} {xs : List Nat} (h : Bs w v xs) (h0 : 0 < xs.length) {g : Nat} (hg : w.heap.size ≤ g) : v.ownBlock ≠ some g := by
  obtain ⟨_, _, ⟨rfl, _⟩ | ⟨_, b, off, cap, rfl, _, hb, _⟩⟩ := h
  · simp at h0
  · intro e
    have e' : some b = some g := e
    have := Option.some.inj e'
    omega
theorem Bs.bf {w : World} {v : Value} {xs : List Nat} (h : Bs w v xs) : Bf w (· < w.heap.size) v xs := ⟨h, fun h0 j hj => by
  rcases Nat.lt_or_ge j w.heap.size with e | e
  · exact e
  · exact absurd hj (h.own h0 e)⟩
theorem grow_cell {w w' : World} (h : Grow w w') {b i : Nat} {u : Value} (hc : w.cell? ⟨b, i, none⟩ = some u) : w'.cell? ⟨b, i, none⟩ = some u := by
  rcases Nat.lt_or_ge b w.heap.size with hb | hb
  · exact (World.cell?_of_block (h.block b hb (fun h => h))).trans hc
  · exfalso
    have h1 : w.heap[b]? = none := by simpa using hb
    simp [World.cell?, h1] at hc
theorem Blk.cells0 {w : World} {g : Nat} {T : TypeId} {L : List Value} (h : Blk w g T L) : ∀ j v, L[j]? = some v → w.cell? ((⟨g, 0, none⟩ : Addr).add j) = some v := by
  intro j v hv
  have e : (⟨g, 0, none⟩ : Addr).add j = ⟨g, j, none⟩ := by simp [Addr.add]; exact fun h => h.symm
  rw [e, h.cell]; exact hv
end Go.Proofs.YtmlladpmecclbaaDoor
/- Slices of slices of bytes. -/
namespace Go.Proofs.YtmlladpmecclbaaDoor
open Go.RowKit

/-- The slice v holds slices that hold these bytes. -/
def Ps (w : World) (v : Value) (xss : List (List Nat)) : Prop :=
  (xss = [] ∧ (v = .slice none 0 0 ∨ ∃ a cap, v = .slice (some a) 0 cap)) ∨
  (0 < xss.length ∧ ∃ b off cap, v = .slice (some ⟨b, off, none⟩) xss.length cap ∧ b < w.heap.size ∧
    ∀ i, i < xss.length → ∃ u, w.cell? ⟨b, off + i, none⟩ = some u ∧ Bs w u (xss.getD i []))
theorem Ps.below {w w' : World} {v : Value} {xss : List (List Nat)} (h : Ps w v xss) (k : But (fun _ => False) w w') : Ps w' v xss := by
  rcases h with h | ⟨h0, b, off, cap, e, hb, hc⟩
  · exact .inl h
  · refine .inr ⟨h0, b, off, cap, e, Nat.lt_of_lt_of_le hb k.size, fun i hi => ?_⟩
    obtain ⟨u, h1, h2⟩ := hc i hi
    exact ⟨u, (World.cell?_of_block (k.block b hb (fun h => h))).trans h1, h2.but k (fun _ _ _ h => h)⟩

theorem Ps.gen {w : World} {v : Value} {xss : List (List Nat)} (h : Ps w v xss) : ∃ ao cap, v = .slice ao xss.length cap ∧ (0 < xss.length → ∃ b off, ao = some ⟨b, off, none⟩ ∧ b < w.heap.size ∧
    ∀ i, i < xss.length → ∃ u, w.cell? ⟨b, off + i, none⟩ = some u ∧ Bs w u (xss.getD i [])) := by
  rcases h with ⟨rfl, rfl | ⟨a, cap, rfl⟩⟩ | ⟨h0, b, off, cap, rfl, hb, hc⟩
  · exact ⟨none, 0, rfl, fun h => absurd h (Nat.lt_irrefl _)⟩
  · exact ⟨some a, cap, rfl, fun h => absurd h (Nat.lt_irrefl _)⟩
  · exact ⟨_, cap, rfl, fun _ => ⟨b, off, rfl, hb, hc⟩⟩
theorem flat_next (xss : List (List Nat)) (k : Nat) (h : k < xss.length) : (xss.take (k + 1)).flatten = (xss.take k).flatten ++ xss.getD k [] := by
  have e : xss.take (k + 1) = xss.take k ++ [xss.getD k []] := by
    rw [List.take_add_one, List.getElem?_eq_getElem h]
    simp [List.getD, h]
  rw [e, List.flatten_append]; simp
theorem flat_le (xss : List (List Nat)) (k : Nat) : (xss.take k).flatten.length ≤ xss.flatten.length := by
  conv => rhs; rw [← List.take_append_drop k xss, List.flatten_append, List.length_append]
  omega
end Go.Proofs.YtmlladpmecclbaaDoor
/- Maps in memory that are ranged over: what a look-up tells, what an update, a delete and a clear leave, and what a range hands out. -/
namespace Go.Proofs.YtmlladpmecclbaaDoor
open Go.RowKit Go.ChangeMaps Go.WideMaps Go.MapKept Go.Maps
section
variable {P : Program} {w w' : World} {b r : Nat} {M L : List (Value × Value)} {t kt et : TypeId}

/-- A map's block: these keys, each with its element; each entry bears a stamp of its own. -/
structure Mq (P : Program) (kt : TypeId) (w : World) (b : Nat) (M : List (Value × Value)) : Prop where
  blk : ∃ es clock, w.heap[b]? = some (.map es clock) ∧ es.toList.map (fun e => (e.key, e.val)) = M ∧ (∀ x ∈ es.toList, x.born < clock) ∧ (es.toList.map (·.born)).Nodup
  key : ∀ p ∈ M, ∃ l, keyOf P kt p.1 = some l
  apart : M.Pairwise (fun p q => p.1 ≠ q.1)
theorem Mq.mp (h : Mq P kt w b M) : Mp P kt w b M := by
  obtain ⟨⟨es, c, h1, h2, -⟩, h3, h4⟩ := h
  exact ⟨⟨es, c, h1, h2⟩, h3, h4⟩
theorem Mq.lt (h : Mq P kt w b M) : b < w.heap.size := h.mp.lt
theorem Mq.but {R : Nat → Prop} (h : Mq P kt w b M) (k : But R w w') (hr : ¬ R b) : Mq P kt w' b M := by
  have hl := h.lt
  obtain ⟨⟨es, c, h1, h2⟩, h3, h4⟩ := h
  exact ⟨⟨es, c, (k.block b hl hr).trans h1, h2⟩, h3, h4⟩
theorem Mq.new (g : Nat) (h : w.heap.size = g) : Mq P kt (w.alloc (.map #[] 0)) g [] := by
  subst h
  exact ⟨⟨#[], 0, heap_alloc_new _ _, rfl, fun x hx => absurd hx (by simp), by simp⟩, fun p hp => absurd hp List.not_mem_nil, .nil⟩
theorem Mq.uniq (h : Mq P kt w b M) {k u v : Value} (hu : (k, u) ∈ M) (hv : (k, v) ∈ M) : u = v := h.mp.uniq hu hv
theorem Mq.look (K : Keyed P kt) (ht : P.underlying t = some (.map kt et)) {z : Value} (hz : (zeroValue et).run P w = .ok z w) (h : Mq P kt w b M) {key : Value} {l : Lit} (hkey : keyOf P kt key = some l) (c : Bool) :
    (∀ v, (key, v) ∈ M → (Instr.lookup t (.map (some b)) key c).run P w = .ok (if c then .tuple #[v, .bool true] else v) w) ∧ ((∀ p ∈ M, p.1 ≠ key) → (Instr.lookup t (.map (some b)) key c).run P w = .ok (if c then .tuple #[z, .bool false] else z) w) := by
  have hu := fun u v => h.uniq (k := key) (u := u) (v := v)
  obtain ⟨⟨es, clock, hb, rfl, -⟩, hk, _⟩ := h
  have hks : ∀ e ∈ es.toList, ∃ l, keyOf P kt e.key = some l := fun e he => hk (e.key, e.val) (List.mem_map.2 ⟨e, he, rfl⟩)
  rcases K.find w hkey es.toList hks with ⟨h1, h2⟩ | ⟨j, e0, h1, h2, h3⟩
  · refine ⟨fun v hv => ?_, fun _ => by simp [Instr.lookup, run_underlying ht, MapKept.run_getObj_map hb, K.check w _ hkey, h1, hz, Result.andThen]⟩
    obtain ⟨e, he, e2⟩ := List.mem_map.1 hv
    exact absurd (Prod.mk.inj e2).1 (h2 e he)
  · have hm0 : e0 ∈ es.toList := List.mem_of_getElem? h2
    have hm : (key, e0.val) ∈ es.toList.map (fun e => (e.key, e.val)) := List.mem_map.2 ⟨e0, hm0, by rw [h3]⟩
    refine ⟨fun v hv => ?_, fun hn => absurd rfl (hn _ hm)⟩
    rw [hu v e0.val hv hm]
    simp [Instr.lookup, run_underlying ht, MapKept.run_getObj_map hb, K.check w _ hkey, h1, Result.andThen]
theorem setB {w : World} {b : Nat} {es : Array MapEntry} {clock : Nat} (hb : w.heap[b]? = some (.map es clock)) (es' : Array MapEntry) (clock' : Nat) : (setBlock w b (.map es' clock')).heap[b]? = some (.map es' clock') ∧ But (· = b) w (setBlock w b (.map es' clock')) := by
  have hlt := (Array.getElem?_eq_some_iff.1 hb).1
  exact ⟨by simp [setBlock, hlt], ⟨rfl, rfl, rfl, by simp [setBlock], fun k _ hk => by simp only [setBlock]; rw [Array.getElem?_setIfInBounds_ne (fun e => hk e.symm)]⟩⟩
/-- A key that was there has another element, all others stay; a new one is behind them. -/
theorem Mq.put (K : Keyed P kt) (ht : P.underlying t = some (.map kt et)) (h : Mq P kt w b M) {key v : Value} {l : Lit} (hkey : keyOf P kt key = some l) :
    ∃ w' M', (Instr.mapUpdate t (.map (some b)) key v).run P w = .ok () w' ∧ Mq P kt w' b M' ∧ But (· = b) w w' ∧ w'.heap.size = w.heap.size ∧ (key, v) ∈ M' ∧ ∀ k u, k ≠ key → ((k, u) ∈ M' ↔ (k, u) ∈ M) := by
  obtain ⟨⟨es, clock, hb, rfl, hbo, hnd⟩, hk, hap⟩ := h
  have hks : ∀ e ∈ es.toList, ∃ l, keyOf P kt e.key = some l := fun e he => hk (e.key, e.val) (List.mem_map.2 ⟨e, he, rfl⟩)
  have hset := setB hb
  have hsz : ∀ o, (setBlock w b o).heap.size = w.heap.size := fun o => by simp [setBlock]
  rcases K.find w hkey es.toList hks with ⟨h1, h2⟩ | ⟨j, e0, h1, h2, h3⟩
  · refine ⟨setBlock w b (.map (es.push ⟨key, v, clock⟩) (clock + 1)), es.toList.map (fun e => (e.key, e.val)) ++ [(key, v)], ?_, ⟨⟨_, _, (hset _ _).1, by simp, ?_, ?_⟩, ?_, ?_⟩, (hset _ _).2, hsz _, by simp, fun k u hne => ?_⟩
    · simp [Instr.mapUpdate, run_underlying ht, MapKept.run_getObj_map hb, K.check w false hkey, h1, MapKept.run_setObj_map _ hb, Result.andThen, setBlock]
    · intro x hx
      rw [Array.toList_push] at hx
      rcases List.mem_append.1 hx with hx | hx
      · have := hbo x hx; omega
      · rw [show x = ⟨key, v, clock⟩ by simpa using hx]; exact Nat.lt_succ_self _
    · rw [Array.toList_push, List.map_append, List.nodup_append]
      refine ⟨hnd, by simp, fun a ha c hc => ?_⟩
      obtain ⟨x, hx, rfl⟩ := List.mem_map.1 ha
      have h5 := hbo x hx
      rw [show c = clock by simpa using hc]
      omega
    · intro p hp
      rcases List.mem_append.1 hp with hp | hp
      · exact hk p hp
      · obtain rfl : p = (key, v) := by simpa using hp
        exact ⟨l, hkey⟩
    · refine List.pairwise_append.2 ⟨hap, List.pairwise_singleton _ _, fun p hp q hq => ?_⟩
      obtain rfl : q = (key, v) := by simpa using hq
      obtain ⟨e, he, rfl⟩ := List.mem_map.1 hp
      exact h2 e he
    · constructor
      · intro h
        rcases List.mem_append.1 h with h | h
        · exact h
        · simp at h; exact absurd h.1 hne
      · exact fun h => List.mem_append_left _ h
  · have hlt2 : j < es.size := by
      have := (List.getElem?_eq_some_iff.1 h2).1
      simpa using this
    have hej : es[j]? = some e0 := by simpa using h2
    have hst := K.stays w hkey
    have hg : es[j] = e0 := by rw [Array.getElem?_eq_getElem hlt2] at hej; exact Option.some.inj hej
    have hmod : (es.modify j fun e => { e with key := key, val := v }).toList = es.toList.set j { e0 with key := key, val := v } := by
      apply List.ext_getElem?
      intro i
      rw [← Array.getElem?_toList.symm, Array.getElem?_modify, List.getElem?_set]
      by_cases hij : j = i
      · subst hij; simp [hlt2, hg]
      · simp [hij]
    have hmap : (es.toList.set j { e0 with key := key, val := v }).map (fun e => (e.key, e.val)) = (es.toList.map (fun e => (e.key, e.val))).set j (key, v) := by rw [List.map_set]
    have hborn : (es.toList.set j { e0 with key := key, val := v }).map (·.born) = es.toList.map (·.born) := by
      rw [List.map_set]
      apply List.ext_getElem?
      intro i
      rw [List.getElem?_set]
      by_cases hij : j = i
      · subst hij; simp [hlt2, hg]
      · simp [hij]
    have hkeys : ((es.toList.map (fun e => (e.key, e.val))).set j (key, v)).map Prod.fst = (es.toList.map (fun e => (e.key, e.val))).map Prod.fst := by
      rw [List.map_set]
      apply List.ext_getElem?
      intro i
      rw [List.getElem?_set]
      by_cases hij : j = i
      · subst hij
        simp [h3, hlt2, hg]
      · simp [hij]
    refine ⟨setBlock w b (.map (es.modify j fun e => { e with key := key, val := v }) clock), (es.toList.map (fun e => (e.key, e.val))).set j (key, v), ?_, ⟨⟨_, _, (hset _ _).1, by rw [hmod, hmap], ?_, by rw [hmod, hborn]; exact hnd⟩, ?_, ?_⟩, (hset _ _).2, hsz _, ?_, fun k u hne => ?_⟩
    · simp [Instr.mapUpdate, run_underlying ht, MapKept.run_getObj_map hb, K.check w false hkey, h1, hej, h3, hst, MapKept.run_setObj_map _ hb, Result.andThen, setBlock]
    · intro x hx
      rw [hmod] at hx
      have h5 : x.born ∈ es.toList.map (·.born) := by rw [← hborn]; exact List.mem_map.2 ⟨x, hx, rfl⟩
      obtain ⟨y, hy, e5⟩ := List.mem_map.1 h5
      rw [← e5]; exact hbo y hy
    · intro p hp
      rcases List.mem_or_eq_of_mem_set hp with hp | rfl
      · exact hk p hp
      · exact ⟨l, hkey⟩
    · have : ((es.toList.map (fun e => (e.key, e.val))).map Prod.fst).Pairwise (· ≠ ·) := List.pairwise_map.2 hap
      rw [← hkeys] at this
      exact List.pairwise_map.1 this
    · exact List.mem_iff_getElem?.2 ⟨j, by rw [List.getElem?_set]; simp [hlt2]⟩
    · constructor
      · intro h
        rcases List.mem_or_eq_of_mem_set h with h | h
        · exact h
        · exact absurd (Prod.mk.inj h).1 hne
      · intro h
        obtain ⟨i, hi⟩ := List.mem_iff_getElem?.1 h
        refine List.mem_iff_getElem?.2 ⟨i, ?_⟩
        rw [List.getElem?_set]
        by_cases hij : j = i
        · subst hij
          simp [hej, h3] at hi
          exact absurd hi.1.symm hne
        · simpa [hij] using hi
/-- A key is taken out. -/
theorem Mq.del (K : Keyed P kt) (ht : P.underlying t = some (.map kt et)) (h : Mq P kt w b M) {key : Value} {l : Lit} (hkey : keyOf P kt key = some l) (ty : TypeId) :
    ∃ w' M', (Builtin.delete_ #[t, kt] ty #[.map (some b), key]).run P w = .ok (.tuple #[]) w' ∧ Mq P kt w' b M' ∧ But (· = b) w w' ∧ w'.heap.size = w.heap.size ∧ ∀ k u, (k, u) ∈ M' ↔ (k, u) ∈ M ∧ k ≠ key := by
  have hap0 := h.apart
  have hkk := h.key
  obtain ⟨⟨es, clock, hb, rfl, hbo, hnd⟩, hk, hap⟩ := h
  have hks : ∀ e ∈ es.toList, ∃ l, keyOf P kt e.key = some l := fun e he => hk (e.key, e.val) (List.mem_map.2 ⟨e, he, rfl⟩)
  have hset := setB hb
  have hsz : ∀ o, (setBlock w b o).heap.size = w.heap.size := fun o => by simp [setBlock]
  rcases K.find w hkey es.toList hks with ⟨h1, h2⟩ | ⟨j, e0, h1, h2, h3⟩
  · refine ⟨setBlock w b (.map es clock), _, ?_, ⟨⟨es, clock, (hset _ _).1, rfl, hbo, hnd⟩, hk, hap⟩, (hset _ _).2, hsz _, fun k u => ⟨fun hm => ⟨hm, ?_⟩, fun hm => hm.1⟩⟩
    · simp [Builtin.delete_, run_underlying ht, MapKept.run_getObj_map hb, K.check w _ hkey, h1, MapKept.run_setObj_map _ hb, Result.andThen, setBlock]
    · obtain ⟨e, he, e2⟩ := List.mem_map.1 hm
      rw [← (Prod.mk.inj e2).1]; exact h2 e he
  · have hjs : j < es.size := by
      have := (List.getElem?_eq_some_iff.1 h2).1
      simpa using this
    have hsub : (es.eraseIdxIfInBounds j).toList = es.toList.eraseIdx j := by
      unfold Array.eraseIdxIfInBounds
      rw [dif_pos hjs]
      simp
    have hsl : (es.toList.eraseIdx j).Sublist es.toList := List.eraseIdx_sublist _ _
    refine ⟨setBlock w b (.map (es.eraseIdxIfInBounds j) clock), (es.toList.eraseIdx j).map (fun e => (e.key, e.val)), ?_, ⟨⟨_, _, (hset _ _).1, by rw [hsub], ?_, ?_⟩, ?_, ?_⟩, (hset _ _).2, hsz _, fun k u => ?_⟩
    · simp [Builtin.delete_, run_underlying ht, MapKept.run_getObj_map hb, K.check w _ hkey, h1, MapKept.run_setObj_map _ hb, Result.andThen, setBlock]
    · intro x hx; rw [hsub] at hx; exact hbo x (hsl.subset hx)
    · rw [hsub]; exact hnd.sublist (hsl.map _)
    · intro p hp; exact hk p ((hsl.map _).subset hp)
    · exact hap.sublist (hsl.map _)
    · have hap' := hap0
      constructor
      · intro hm
        have h4 := (hsl.map (fun e : MapEntry => (e.key, e.val))).subset hm
        refine ⟨h4, fun e4 => ?_⟩
        obtain ⟨e, he, e2⟩ := List.mem_map.1 hm
        rw [List.mem_eraseIdx_iff_getElem?] at he
        obtain ⟨i, hne, hi⟩ := he
        have h5 : (es.toList.map (fun e => (e.key, e.val)))[i]? = some (e.key, e.val) := by simp only [List.getElem?_map, hi, Option.map_some]
        have h6 : (es.toList.map (fun e => (e.key, e.val)))[j]? = some (e0.key, e0.val) := by simp only [List.getElem?_map, h2, Option.map_some]
        obtain ⟨h7, h7'⟩ := List.getElem?_eq_some_iff.1 h5
        obtain ⟨h8, h8'⟩ := List.getElem?_eq_some_iff.1 h6
        have hek : e.key = e0.key := by rw [h3, ← e4]; exact (Prod.mk.inj e2).1
        rcases Nat.lt_or_ge i j with hij | hij
        · have := List.pairwise_iff_getElem.1 hap i j h7 h8 hij
          rw [h7', h8'] at this
          exact this hek
        · have := List.pairwise_iff_getElem.1 hap j i h8 h7 (by omega)
          rw [h7', h8'] at this
          exact this hek.symm
      · rintro ⟨hm, hne⟩
        obtain ⟨e, he, e2⟩ := List.mem_map.1 hm
        refine List.mem_map.2 ⟨e, ?_, e2⟩
        rw [List.mem_eraseIdx_iff_getElem?]
        obtain ⟨i, hi⟩ := List.getElem?_of_mem he
        refine ⟨i, fun e1 => hne ?_, hi⟩
        rw [e1, h2] at hi
        cases hi
        rw [← h3]; exact (Prod.mk.inj e2).1.symm
/-- All is taken out. -/
theorem Mq.clear {d : TypeDesc} (ht : P.underlying t = some d) (h : Mq P kt w b M) (ty : TypeId) :
    ∃ w', (Builtin.clear_ #[t] ty #[.map (some b)]).run P w = .ok (.tuple #[]) w' ∧ Mq P kt w' b [] ∧ But (· = b) w w' ∧ w'.heap.size = w.heap.size := by
  obtain ⟨⟨es, clock, hb, rfl, hbo, hnd⟩, hk, hap⟩ := h
  have hset := setB hb
  refine ⟨setBlock w b (.map #[] clock), ?_, ⟨⟨_, _, (hset _ _).1, rfl, fun x hx => absurd hx (by simp), by simp⟩, fun p hp => absurd hp List.not_mem_nil, .nil⟩, (hset _ _).2, by simp [setBlock]⟩
  simp [Builtin.clear_, run_underlying ht, MapKept.run_getObj_map hb, MapKept.run_setObj_map _ hb, Result.andThen, setBlock]
/-- An iterator in block r over the map in block b: these pairs are left. -/
structure Rg (w : World) (r b : Nat) (M L : List (Value × Value)) : Prop where
  ex : ∃ es clock seen c0, w.heap[r]? = some (.mapIter (some b) clock seen c0) ∧ clock ≤ c0 ∧ w.heap[b]? = some (.map es clock) ∧ es.toList.map (fun e => (e.key, e.val)) = M ∧ (∀ x ∈ es.toList, x.born < clock) ∧ (es.toList.map (·.born)).Nodup ∧ (leftOf es seen).toList.map (fun e => (e.key, e.val)) = L
theorem Rg.ne (h : Rg w r b M L) : r ≠ b := by
  obtain ⟨es, clock, seen, c0, h1, _, h2, _⟩ := h.ex
  intro e; rw [e, h2] at h1; cases h1
theorem Rg.lt (h : Rg w r b M L) : r < w.heap.size ∧ b < w.heap.size := by
  obtain ⟨es, clock, seen, c0, h1, _, h2, _⟩ := h.ex
  exact ⟨(Array.getElem?_eq_some_iff.1 h1).1, (Array.getElem?_eq_some_iff.1 h2).1⟩
theorem Rg.but {R : Nat → Prop} (h : Rg w r b M L) (k : But R w w') (h1 : ¬ R r) (h2 : ¬ R b) : Rg w' r b M L := by
  have hl := h.lt
  obtain ⟨es, clock, seen, c0, h3, h4, h5, h6⟩ := h.ex
  exact ⟨es, clock, seen, c0, (k.block r hl.1 h1).trans h3, h4, (k.block b hl.2 h2).trans h5, h6⟩
theorem Mq.range {et : TypeId} (ht : P.underlying t = some (.map kt et)) (h : Mq P kt w b M) : ∃ w', (Instr.range t (.map (some b))).run P w = .ok (.pointer (some ⟨w.heap.size, 0, none⟩)) w' ∧ But (fun _ => False) w w' ∧ w'.heap.size = w.heap.size + 1 ∧ Rg w' w.heap.size b M M := by
  have hl := h.lt
  obtain ⟨⟨es, clock, hb, rfl, hbo, hnd⟩, hk, hap⟩ := h
  refine ⟨w.alloc (.mapIter (some b) clock #[] clock), run_range_map w t kt et b es clock ht hb, (But.refl _ w).alloc _, by simp, es, clock, #[], clock, heap_alloc_new _ _, Nat.le_refl _, by rw [heap_alloc_old w _ hl, hb], rfl, hbo, hnd, ?_⟩
  have : leftOf es #[] = es := by
    unfold leftOf
    exact Array.filter_eq_self.2 (fun x hx => by simp)
  rw [this]
theorem perm_filter {α : Type} (f : α → Nat) (e : α) : ∀ (l : List α), (l.map f).Nodup → e ∈ l → l.Perm (e :: l.filter fun x => !(f x == f e))
  | [], _, h => absurd h List.not_mem_nil
  | x :: l, hn, h => by
    have hn' : f x ∉ l.map f ∧ (l.map f).Nodup := List.nodup_cons.1 hn
    rcases List.mem_cons.1 h with rfl | h
    · have : (l.filter fun y => !(f y == f e)) = l := List.filter_eq_self.2 (fun y hy => by
        have : f y ≠ f e := fun h2 => hn'.1 (by rw [← h2]; exact List.mem_map.2 ⟨y, hy, rfl⟩)
        simpa using this)
      simp [this]
    · have hx : (!(f x == f e)) = true := by
        have : f x ≠ f e := fun h2 => hn'.1 (by rw [h2]; exact List.mem_map.2 ⟨e, h, rfl⟩)
        simpa using this
      rw [List.filter_cons, if_pos hx]
      exact ((perm_filter f e l hn'.2 h).cons x).trans (List.Perm.swap _ _ _)
/-- The next one, whichever it is. -/
theorem Rg.next (h : Rg w r b M L) (ty : TypeId) :
    (L = [] ∧ (Instr.next (.pointer (some ⟨r, 0, none⟩)) false ty).run P w = .ok (.tuple #[.bool false]) w) ∨
    ∃ p L' w', p ∈ M ∧ L.Perm (p :: L') ∧ (Instr.next (.pointer (some ⟨r, 0, none⟩)) false ty).run P w = .ok (.tuple #[.bool true, p.1, p.2]) w' ∧ But (· = r) w w' ∧ w'.heap.size = w.heap.size ∧ Rg w' r b M L' ∧ (Instr.entry (.pointer (some ⟨r, 0, none⟩))).run P w' = .ok (.tuple #[p.1, p.2]) w' := by
  have hne := h.ne
  have hl := h.lt
  obtain ⟨es, clock, seen, c0, h1, h2, h3, rfl, h4, h5, rfl⟩ := h.ex
  rcases run_next_at w ty r b clock c0 seen es clock h1 h3 h4 h2 with ⟨e0, hr⟩ | ⟨e, he, w1, hw1, hr⟩
  · have : leftOf es seen = #[] := Array.eq_empty_of_size_eq_zero e0
    exact .inl ⟨by rw [this]; rfl, hr⟩
  · have hm := mem_left he
    have hq : w1.heap = w.heap ∧ But (fun _ => False) w w1 := by
      rcases hw1 with rfl | rfl
      · exact ⟨rfl, But.refl _ _⟩
      · exact ⟨rfl, (But.refl _ w).drew⟩
    have hr1 : (setBlock w1 r (.mapIter (some b) clock (seen.push e.born) clock)).heap[r]? = some (.mapIter (some b) clock (seen.push e.born) clock) := by
      simp [setBlock, hq.1, hl.1]
    have hb1 : (setBlock w1 r (.mapIter (some b) clock (seen.push e.born) clock)).heap[b]? = some (.map es clock) := by
      simp only [setBlock]
      rw [Array.getElem?_setIfInBounds_ne hne, hq.1]; exact h3
    refine .inr ⟨(e.key, e.val), (leftOf es (seen.push e.born)).toList.map (fun e => (e.key, e.val)), _, List.mem_map.2 ⟨e, hm.1, rfl⟩, ?_, hr, ⟨by simp [setBlock]; exact hq.2.os, by simp [setBlock]; exact hq.2.tape, by simp [setBlock]; exact hq.2.output, by simp [setBlock, hq.1], fun k _ hk => by
      simp only [setBlock]
      rw [Array.getElem?_setIfInBounds_ne (fun e => hk e.symm), hq.1]⟩, by simp [setBlock, hq.1], ⟨es, clock, seen.push e.born, clock, hr1, Nat.le_refl _, hb1, rfl, h4, h5, rfl⟩, run_entry_at _ r b clock seen es clock e hr1 hb1 hm.1 h5⟩
    have hn2 : ((leftOf es seen).toList.map (·.born)).Nodup := by
      unfold leftOf
      rw [Array.toList_filter]
      exact h5.sublist (List.filter_sublist.map _)
    have h6 := perm_filter (fun e : MapEntry => e.born) e (leftOf es seen).toList hn2 he
    have h7 : ((leftOf es seen).toList.filter fun x => !(x.born == e.born)) = (leftOf es (seen.push e.born)).toList := by
      unfold leftOf
      rw [Array.toList_filter, Array.toList_filter, List.filter_filter]
      apply List.filter_congr
      intro x hx
      rw [contains_push]
      cases seen.contains x.born <;> simp
    rw [h7] at h6
    exact h6.map _
end
end Go.Proofs.YtmlladpmecclbaaDoor
/- Operations on maps, one by one; a key is taken out while the map is ranged over. -/
namespace Go.Proofs.YtmlladpmecclbaaDoor
open Go.RowKit Go.ChangeMaps Go.WideMaps Go.MapKept Go.Maps

section
variable {w w' : World} {o : Oper} {ρ : Operand → Value}
theorem exec_range {t : TypeId} {x : Operand} {u r : Value} (ho : o.op = .range t x) (hx : ρ x = u) (h : (Instr.range t u).run Tryd.prog w = .ok r w') : (execOp ρ o).run Tryd.prog w = .ok (.value r) w' := by
  unfold execOp
  simp only [ho, hx, Sem.run_bind, h, Result.andThen_ok, Sem.run_pure]
theorem exec_next {x : Operand} {u r : Value} {ty : TypeId} (ho : o.op = .next x false) (hx : ρ x = u) (hty : o.type = ty) (h : (Instr.next u false ty).run Tryd.prog w = .ok r w') : (execOp ρ o).run Tryd.prog w = .ok (.value r) w' := by
  unfold execOp
  simp only [ho, hx, hty, Sem.run_bind, h, Result.andThen_ok, Sem.run_pure]
theorem exec_entry {x : Operand} {u r : Value} (ho : o.op = .entry x) (hx : ρ x = u) (h : (Instr.entry u).run Tryd.prog w = .ok r w') : (execOp ρ o).run Tryd.prog w = .ok (.value r) w' := by
  unfold execOp
  simp only [ho, hx, Sem.run_bind, h, Result.andThen_ok, Sem.run_pure]
theorem exec_clear {t : TypeId} {x : Operand} {u r : Value} (ho : o.op = .call { callee := .builtin .clear, args := #[x], argTypes := #[t] }) (hx : ρ x = u) (h : (Builtin.clear_ #[t] o.type #[u]).run Tryd.prog w = .ok r w') : (execOp ρ o).run Tryd.prog w = .ok (.value r) w' := by
  unfold execOp
  simp only [ho, resolve, invoke, builtin, Sem.run_bind, Sem.run_pure, Result.andThen_ok, List.map_toArray, List.map_cons, List.map_nil, hx, h]
theorem exec_delete {t k : TypeId} {x y : Operand} {u v r : Value} (ho : o.op = .call { callee := .builtin .delete, args := #[x, y], argTypes := #[t, k] }) (hx : ρ x = u) (hy : ρ y = v) (h : (Builtin.delete_ #[t, k] o.type #[u, v]).run Tryd.prog w = .ok r w') : (execOp ρ o).run Tryd.prog w = .ok (.value r) w' := by
  unfold execOp
  simp only [ho, resolve, invoke, builtin, Sem.run_bind, Sem.run_pure, Result.andThen_ok, List.map_toArray, List.map_cons, List.map_nil, hx, hy, h]
end
/-- The act of a goal brought down. -/
theorem act_down {P : Program} {c : Code} {Q : Exit → Act → World → Prop} {a : Act} {w : World} (h : ∀ K : Act → Prop, (∀ a, Code.wp P c Q a w → K a) → K a) : Code.wp P c Q a w := h _ (fun _ h => h)
/-- How many an iterator has left. -/
def leftN (w : World) (r b : Nat) : Nat := match w.heap[r]?, w.heap[b]? with
  | some (.mapIter _ _ seen _), some (.map es _) => (leftOf es seen).size
  | _, _ => 0
theorem Rg.left {w : World} {r b : Nat} {M L : List (Value × Value)} (h : Rg w r b M L) : leftN w r b = L.length := by
  obtain ⟨es, clock, seen, c0, h1, -, h2, -, -, -, rfl⟩ := h.ex
  unfold leftN
  rw [h1, h2]
  simp
section
variable {P : Program} {w w' : World} {b r : Nat} {M L : List (Value × Value)} {t kt et : TypeId}
theorem Mq.len (ht : P.underlying t = some (.map kt et)) (h : Mq P kt w b M) (ty : TypeId) : (Builtin.len_ #[t] ty #[.map (some b)]).run P w = .ok (.int .i64 (M.length : Int)) w := by
  obtain ⟨⟨es, clock, hb, rfl, -⟩, -⟩ := h
  simp [Builtin.len_, run_underlying ht, MapKept.run_getObj_map hb, goInt, Result.andThen]
theorem exec_lenM {o : Oper} {ρ : Operand → Value} {x : Operand} {u r : Value} (ho : o.op = .call { callee := .builtin .len, args := #[x], argTypes := #[t] }) (hx : ρ x = u) (h : (Builtin.len_ #[t] o.type #[u]).run P w = .ok r w) : (execOp ρ o).run P w = .ok (.value r) w := by
  unfold execOp
  simp only [ho, resolve, invoke, builtin, Sem.run_bind, Sem.run_pure, Result.andThen_ok, List.map_toArray, List.map_cons, List.map_nil, hx, h]
/-- An entry that was handed out is taken out: what is left stays. -/
theorem Rg.del (K : Keyed P kt) (ht : P.underlying t = some (.map kt et)) (h : Mq P kt w b M) (hr : Rg w r b M L) {key v : Value} {l : Lit} (hkey : keyOf P kt key = some l) (hin : (key, v) ∈ M) (hout : ∀ u, (key, u) ∉ L) (ty : TypeId) :
    ∃ w' M', (Builtin.delete_ #[t, kt] ty #[.map (some b), key]).run P w = .ok (.tuple #[]) w' ∧ Mq P kt w' b M' ∧ Rg w' r b M' L ∧ But (· = b) w w' ∧ w'.heap.size = w.heap.size ∧ ∀ k u, (k, u) ∈ M' ↔ (k, u) ∈ M ∧ k ≠ key := by
  obtain ⟨w', M', hrun, hM, hbut, hsz, hmem⟩ := h.del (t := t) (et := et) K ht hkey ty
  refine ⟨w', M', hrun, hM, ?_, hbut, hsz, hmem⟩
  have hne := hr.ne
  have hlt := hr.lt
  obtain ⟨es, clock, seen, c0, h1, h2, h3, hMe, h4, h5, h6⟩ := hr.ex
  have hk := h.key
  have hks : ∀ e ∈ es.toList, ∃ l, keyOf P kt e.key = some l := fun e he => hk (e.key, e.val) (by rw [← hMe]; exact List.mem_map.2 ⟨e, he, rfl⟩)
  rcases K.find w hkey es.toList hks with ⟨g1, g2⟩ | ⟨j, e0, g1, g2, g3⟩
  · rw [← hMe] at hin
    obtain ⟨e, he, e2⟩ := List.mem_map.1 hin
    exact absurd (Prod.mk.inj e2).1 (g2 e he)
  have hjs : j < es.size := by
    have := (List.getElem?_eq_some_iff.1 g2).1
    simpa using this
  have hsub : (es.eraseIdxIfInBounds j).toList = es.toList.eraseIdx j := by
    unfold Array.eraseIdxIfInBounds
    rw [dif_pos hjs]
    simp
  have hrun2 : (Builtin.delete_ #[t, kt] ty #[.map (some b), key]).run P w = .ok (.tuple #[]) (setBlock w b (.map (es.eraseIdxIfInBounds j) clock)) := by
    simp [Builtin.delete_, run_underlying ht, MapKept.run_getObj_map h3, K.check w _ hkey, g1, MapKept.run_setObj_map _ h3, Result.andThen, setBlock]
  rw [hrun] at hrun2
  have hw' : w' = setBlock w b (.map (es.eraseIdxIfInBounds j) clock) := by
    simp only [Result.ok.injEq, true_and] at hrun2
    exact hrun2
  have hb' : w'.heap[b]? = some (.map (es.eraseIdxIfInBounds j) clock) := by rw [hw']; exact (setB h3 _ _).1
  have hr' : w'.heap[r]? = some (.mapIter (some b) clock seen c0) := (hbut.block r hlt.1 hne).trans h1
  obtain ⟨es2, clock2, hb2, hM2, -⟩ := hM.blk
  rw [hb'] at hb2
  simp only [Option.some.injEq, Obj.map.injEq] at hb2
  obtain ⟨rfl, -⟩ := hb2
  have hsl : (es.toList.eraseIdx j).Sublist es.toList := List.eraseIdx_sublist _ _
  refine ⟨_, clock, seen, c0, hr', h2, hb', hM2, fun x hx => ?_, ?_, ?_⟩
  · rw [hsub] at hx; exact h4 x (hsl.subset hx)
  · rw [hsub]; exact h5.sublist (hsl.map _)
  · rw [← h6]
    congr 1
    unfold leftOf
    rw [Array.toList_filter, Array.toList_filter, hsub]
    have hseen : seen.contains e0.born = true := by
      cases hc : seen.contains e0.born with
      | true => rfl
      | false =>
        refine absurd ?_ (hout e0.val)
        rw [← h6]
        refine List.mem_map.2 ⟨e0, ?_, by rw [g3]⟩
        unfold leftOf
        rw [Array.toList_filter]
        exact List.mem_filter.2 ⟨List.mem_of_getElem? g2, by rw [hc]; rfl⟩
    obtain ⟨hj2, hj3⟩ := List.getElem?_eq_some_iff.1 g2
    have e1 : es.toList = es.toList.take j ++ e0 :: es.toList.drop (j + 1) := by
      rw [← hj3, List.getElem_cons_drop, List.take_append_drop]
    rw [List.eraseIdx_eq_take_drop_succ]
    conv => rhs; rw [e1]
    rw [List.filter_append, List.filter_append, List.filter_cons, if_neg (by rw [hseen]; simp)]
end
end Go.Proofs.YtmlladpmecclbaaDoor
/- General: numbers as keys, single operations. -/
namespace Go.Proofs.YtmlladpmecclbaaDoor
open Go.RowKit

def i64 (K : Int) : Prop := -9223372036854775808 ≤ K ∧ K ≤ 9223372036854775807
theorem keyIa : Go.Maps.Keyed Tryd.prog 3 := Go.Maps.int_keyed Tryd.underlying3
theorem keyOfIa (K : Int) (h : i64 K) : keyOf Tryd.prog 3 (.int .i64 K) = some (.int .i64 K) := by
  refine Go.Maps.keyOf_int_mk Tryd.underlying3 ?_
  have e1 : IntKind.i64.min = -9223372036854775808 := rfl
  have e2 : IntKind.i64.max = 9223372036854775807 := rfl
  simp only [Lit.wf, e1, e2, Bool.and_eq_true, decide_eq_true_eq]
  exact h
theorem wpList_runH {ops : Array Oper} {rest : List Oper} {o : Oper} {a : Act} {w w' : World} {Q : Exit → Act → World → Prop} {v : Value} (hgd : o.guard = none) (hr : (execOp a.eval o).run Tryd.prog w = .ok (.value v) w') (h : wpList Tryd.prog ops Q rest (a.put o.dst v) w') : wpList Tryd.prog ops Q (o :: rest) a w :=
  wpList_plain hgd fun _ hK => by
    unfold Oper.wp
    rw [hr]
    exact hK _ _ h
theorem wrapN (n : Nat) (h : n ≤ 1000000000) : IntKind.i64.wrap (n : Int) = (n : Int) := by
  simp [IntKind.wrap, IntKind.bits, IntKind.signed]; omega
theorem wpList_someH {ops : Array Oper} {rest : List Oper} {o : Oper} {a : Act} {w : World} {Q : Exit → Act → World → Prop} {Φ : Value → World → Prop} (hgd : o.guard = none) (hr : ∃ v w', (execOp a.eval o).run Tryd.prog w = .ok (.value v) w' ∧ Φ v w') (h : ∀ v w', Φ v w' → wpList Tryd.prog ops Q rest (a.put o.dst v) w') : wpList Tryd.prog ops Q (o :: rest) a w := by
  obtain ⟨v, w', h1, h2⟩ := hr
  exact wpList_runH hgd h1 (h v w' h2)
section
variable {w w' : World} {o : Oper} {ρ : Operand → Value}
theorem exec_mkMap {t : TypeId} {r : Value} (ho : o.op = .makeMap t none) (h : (Instr.makeMap t none).run Tryd.prog w = .ok r w') : (execOp ρ o).run Tryd.prog w = .ok (.value r) w' := by
  unfold execOp
  simp only [ho, Option.map_none, Sem.run_bind, h, Result.andThen_ok, Sem.run_pure]
end
def kn (k : Int) : Nat := match k with
  | .ofNat n => 2 * n + 1
  | .negSucc n => 2 * n + 2
theorem kn_inj {a b : Int} (h : kn a = kn b) : a = b := by
  unfold kn at h
  cases a with
  | ofNat a =>
    cases b with
    | ofNat b => simp only at h; rw [show a = b by omega]
    | negSucc b => simp only at h; omega
  | negSucc a =>
    cases b with
    | ofNat b => simp only at h; omega
    | negSucc b => simp only at h; rw [show a = b by omega]
theorem kn_pos (a : Int) : kn a ≠ 0 := by unfold kn; cases a <;> simp
abbrev iv (k : Int) : Value := .int .i64 k
abbrev ptr (g : Nat) : Value := .pointer (some ⟨g, 0, none⟩)
theorem iv_inj {a b : Int} (h : iv a = iv b) : a = b := by simpa using h
theorem zInt (w : World) : (zeroValue 3).run Tryd.prog w = .ok (.int .i64 0) w := by kernel_rfl
theorem mkM (w : World) (t : TypeId) : (Instr.makeMap t none).run Tryd.prog w = .ok (.map (some w.heap.size)) (w.alloc (.map #[] 0)) := by
  simp [Instr.makeMap]
theorem wpList_skipH {ops : Array Oper} {rest : List Oper} {o : Oper} {a : Act} {w w' : World} {Q : Exit → Act → World → Prop} (hgd : o.guard = none) (hr : (execOp a.eval o).run Tryd.prog w = .ok .skip w') (h : wpList Tryd.prog ops Q rest (a.put o.dst undef) w') : wpList Tryd.prog ops Q (o :: rest) a w :=
  wpList_plain hgd fun _ hK => by
    unfold Oper.wp
    rw [hr]
    exact hK _ _ h
theorem wrapI {x : Int} (h : -9223372036854775808 ≤ x) (h2 : x ≤ 9223372036854775807) : IntKind.i64.wrap x = x := by
  simp [IntKind.wrap, IntKind.bits, IntKind.signed]; omega
theorem exec_ldF {w : World} {o : Oper} {ρ : Operand → Value} {T : TypeId} {d : TypeDesc} (hu : Tryd.prog.underlying T = some d) (hd : (match d with | .struct _ | .array _ _ => true | _ => false) = true) {cs : List Value} (hi : (Tryd.prog.info? T).map (·.size) = some cs.length) {x : Operand} {ad : Addr} (hc : ∀ j u, cs[j]? = some u → w.cell? (ad.add j) = some u)
    (ho : o.op = .load T x) (hx : ρ x = .pointer (some ad)) : (execOp ρ o).run Tryd.prog w = .ok (.value (.agg cs.toArray)) w := by
  have h := run_loadVar_cells w ad T cs _ hc hu hd hi
  unfold execOp
  simp only [ho, hx, Instr.loadAt, Instr.sureAddr, Sem.run_bind, Sem.run_pure, Result.andThen_ok, h]
theorem exec_allocF {w : World} {o : Oper} {ρ : Operand → Value} {T : TypeId} {Z : Array Value} (ho : o.op = .alloc T) (hz : (zeroValue T).run Tryd.prog w = .ok (.agg Z) w) : (execOp ρ o).run Tryd.prog w = .ok (.value (.pointer (some ⟨w.heap.size, 0, none⟩))) (w.alloc (.cells Z T)) := by
  simp [execOp, ho, go_sem, hz]
end Go.Proofs.YtmlladpmecclbaaDoor
/- Rows of slices of bytes put behind a row of one's own: append of a [][]byte, whatever it holds. -/
namespace Go.Proofs.YtmlladpmecclbaaDoor
open Go.RowKit

theorem infRS : (Tryd.prog.info? 22).map (fun i => (i.zero, i.size, i.bytes)) = some (some (.slice none 0 0), 1, 24) := by kernel_rfl
theorem exec_row0 {w : World} {o : Oper} {ρ : Operand → Value} (ho : o.op = .buildSlice 26 0 #[]) : (execOp ρ o).run Tryd.prog w = .ok (.value (.slice (some ⟨w.heap.size, 0, none⟩) 0 0)) (w.alloc (.cells #[] 22)) := by
  have h : (Instr.buildSlice 26 0 #[]).run Tryd.prog w = .ok (.slice (some ⟨w.heap.size, 0, none⟩) 0 0) (w.alloc (.cells #[] 22)) := by
    obtain ⟨i, hi, hz, hs, hby⟩ := info_parts infRS
    simp [Instr.buildSlice, run_underlying Tryd.underlying26, sizeOf, typeInfo, hi, newRow, Instr.fill]
    rw [show Array.range 0 = (#[] : Array Nat) from rfl]
    simp
  unfold execOp
  simp only [ho, List.map_toArray, List.map_nil, Sem.run_bind, h, Result.andThen_ok, Sem.run_pure]
theorem row0_own (w : World) (g : Nat) (hg : g = w.heap.size) : (w.alloc (.cells #[] 22)).ownsRow 0 22 1 (.slice (some ⟨g, 0, none⟩) 0 0) 0 [] := by
  have hb : Blk (w.alloc (.cells #[] 22)) g 22 [] := Blk.new hg.symm
  exact ⟨rfl, .inr ⟨g, 0, #[], rfl, Nat.zero_le _, hb, Nat.le_refl _, Nat.zero_le _, rfl, rfl⟩⟩
theorem cell_ltA {w : World} {a : Addr} {u : Value} (h : w.cell? a = some u) : a.block < w.heap.size := by
  rcases Nat.lt_or_ge a.block w.heap.size with hb | hb
  · exact hb
  · unfold World.cell? at h
    rw [Array.getElem?_eq_none hb] at h
    cases h
/-- The values of a row that holds bytes. -/
theorem Ps.vals {w : World} {u : Value} {xss : List (List Nat)} (h : Ps w u xss) : ∃ (L : List (Value × List Nat)) (ao : Option Addr) (cap : Nat), L.map (·.2) = xss ∧ (∀ e ∈ L, Bs w e.1 e.2) ∧ u = .slice ao xss.length cap ∧ (xss.length = 0 ∨ ∃ ad, ao = some ad ∧ ∀ j z, (L.map (·.1))[j]? = some z → w.cell? (ad.add j) = some z) := by
  obtain ⟨ao, cap, rfl, hg⟩ := h.gen
  by_cases h0 : 0 < xss.length
  · obtain ⟨b, off, rfl, hb, hc⟩ := hg h0
    have hc' : ∀ i, ∃ u, i < xss.length → w.cell? ⟨b, off + i, none⟩ = some u ∧ Bs w u (xss.getD i []) := fun i => by
      by_cases hi : i < xss.length
      · obtain ⟨u, hu⟩ := hc i hi
        exact ⟨u, fun _ => hu⟩
      · exact ⟨undef, fun h => absurd h hi⟩
    obtain ⟨V, hV⟩ : ∃ V : Nat → Value, ∀ i, i < xss.length → w.cell? ⟨b, off + i, none⟩ = some (V i) ∧ Bs w (V i) (xss.getD i []) := ⟨fun i => (hc' i).choose, fun i => (hc' i).choose_spec⟩
    refine ⟨(List.range xss.length).map (fun i => (V i, xss.getD i [])), _, cap, ?_, fun e he => ?_, rfl, .inr ⟨_, rfl, fun j z hj => ?_⟩⟩
    · rw [List.map_map]
      apply List.ext_getElem (by simp)
      intro i h1 h2
      simp [List.getD, h2]
    · obtain ⟨i, hi, rfl⟩ := List.mem_map.1 he
      exact (hV i (List.mem_range.1 hi)).2
    · rw [List.map_map] at hj
      have hjl : j < xss.length := by
        have := (List.getElem?_eq_some_iff.1 hj).1
        simpa using this
      have : (some (V j) : Option Value) = some z := by rw [← hj]; simp [hjl]
      rw [addr_add, (hV j hjl).1, this]
  · have hx : xss = [] := List.eq_nil_of_length_eq_zero (by omega)
    subst hx
    exact ⟨[], ao, cap, rfl, fun e he => absurd he List.not_mem_nil, rfl, .inl rfl⟩
theorem exec_appendP {w0 w : World} {o : Oper} {ρ : Operand → Value} {v u : Value} {n : Nat} {xs : List Value} {xss : List (List Nat)} {x y : Operand} (ho : o.op = .call { callee := .builtin .append, args := #[x, y], argTypes := #[26, 26] }) (hx : ρ x = v) (hv : w.ownsRow 0 22 1 v n xs) (hy : ρ y = u) (hg : Grow w0 w) (hu : Ps w0 u xss) (hn : n + xss.length ≤ 1000000) :
    ∃ v' w', (execOp ρ o).run Tryd.prog w = .ok (.value v') w' ∧ ∃ L : List (Value × List Nat), L.map (·.2) = xss ∧ (∀ e ∈ L, Bs w0 e.1 e.2) ∧ Appd w w' 22 1 v v' (n + xss.length) (xs ++ L.map (·.1)) := by
  have hnil := hu
  obtain ⟨L, ao, cap, h1, h2, rfl, h3⟩ := hu.vals
  have hl : L.length = xss.length := by rw [← h1, List.length_map]
  have key : ∀ (ad : Addr), (Value.slice ao xss.length cap) = .slice (some ad) xss.length cap → (∀ j z, (L.map (·.1))[j]? = some z → w.cell? (ad.add j) = some z) → ∃ v' w', (execOp ρ o).run Tryd.prog w = .ok (.value v') w' ∧ ∃ L : List (Value × List Nat), L.map (·.2) = xss ∧ (∀ e ∈ L, Bs w0 e.1 e.2) ∧ Appd w w' 22 1 v v' (n + xss.length) (xs ++ L.map (·.1)) := fun ad e hc => by
    obtain ⟨v', w', hr, ha⟩ := exec_append (news := L.map (·.1)) Tryd.underlying26 infRS rfl (by decide) ho hx hv (hy.trans e) (by rw [List.length_map, hl, Nat.mul_one]) hc (fun z hz => by obtain ⟨q, hq, rfl⟩ := List.mem_map.1 hz; exact (h2 q hq).one) hn (by decide)
    exact ⟨v', w', hr, L, h1, h2, ha⟩
  rcases h3 with h0 | ⟨ad, rfl, hc⟩
  · have hx0 : xss = [] := List.eq_nil_of_length_eq_zero h0
    subst hx0
    have hL0 : L = [] := List.eq_nil_of_length_eq_zero hl
    subst hL0
    rcases hnil with ⟨-, e | ⟨a, cap', e⟩⟩ | ⟨hlt, -⟩
    · obtain ⟨i0, hi, hz0, hz1, hz2⟩ := info_parts infRS
      have hrun := run_append_owned_none (P := Tryd.prog) w 0 26 o.type 22 i0 1 Tryd.underlying26 hi v n xs hv
      refine ⟨v, w, ?_, [], rfl, fun e he => absurd he List.not_mem_nil, ⟨by simpa using hv, But.refl _ _, .inl rfl, fun k hk => ?_⟩⟩
      · unfold execOp
        simp only [ho, resolve, invoke, builtin, Sem.run_bind, Sem.run_pure, Result.andThen_ok, List.map_toArray, List.map_cons, List.map_nil, hx, hy, e, hrun]
      · obtain ⟨-, ⟨rfl, -⟩ | ⟨g, c, cu, rfl, -, hb, -⟩⟩ := hv
        · cases hk
        · cases hk; exact lt_of_block hb
    · simp only [Value.slice.injEq] at e
      obtain ⟨rfl, -, rfl⟩ := e
      exact key a rfl (fun j z hz => by simp at hz)
    · exact absurd hlt (by simp)
  · exact key ad rfl (fun j z hj => (World.cell?_of_block (hg.block _ (cell_ltA (hc j z hj)) (fun h => h))).trans (hc j z hj))
/-- An own row of slices that hold bytes. -/
theorem ps_row {w : World} {v : Value} {L : List (Value × List Nat)} (h : w.ownsRow 0 22 1 v L.length (L.map (·.1))) (he : ∀ e ∈ L, Bs w e.1 e.2) : Ps w v (L.map (·.2)) := by
  have hr : RowOf w (fun _ => True) 22 1 v L.length (L.map (·.1)) := ⟨h, fun _ _ => trivial⟩
  obtain ⟨ao, cap, rfl, hrow⟩ := hr.shape
  by_cases h0 : 0 < L.length
  · obtain ⟨g, rfl, _, hg, hc⟩ := hrow h0
    refine .inr ⟨by simpa using h0, g, 0, cap, by rw [List.length_map], hg, fun i hi => ?_⟩
    rw [List.length_map] at hi
    refine ⟨(L[i]).1, ?_, ?_⟩
    · rw [Nat.zero_add]
      exact hc i _ (by simp [hi])
    · have := he (L[i]) (List.getElem_mem hi)
      simpa [List.getD, hi] using this
  · have : L = [] := List.eq_nil_of_length_eq_zero (by omega)
    subst this
    cases ao with
    | none =>
      obtain ⟨h1, ⟨e, _⟩ | ⟨g, c, cur, e, _⟩⟩ := h
      · exact .inl ⟨rfl, .inl e⟩
      · cases e
    | some a => exact .inl ⟨rfl, .inr ⟨a, cap, rfl⟩⟩
/-- A row put behind a row of one's own whose blocks are new. -/
theorem ps_app {w0 w w' : World} {v v' : Value} {L : List (Value × List Nat)} {n : Nat} {xss : List (List Nat)} (hn : n = L.length) (hg : Grow w0 w) (hL : ∀ e ∈ L, Bs w0 e.1 e.2) (hb : ∀ k, v.ownBlock = some k → w0.heap.size ≤ k)
    (h : ∃ M : List (Value × List Nat), M.map (·.2) = xss ∧ (∀ e ∈ M, Bs w0 e.1 e.2) ∧ Appd w w' 22 1 v v' (n + xss.length) (L.map (·.1) ++ M.map (·.1))) :
    ∃ N : List (Value × List Nat), N.map (·.2) = L.map (·.2) ++ xss ∧ (∀ e ∈ N, Bs w0 e.1 e.2) ∧ w'.ownsRow 0 22 1 v' N.length (N.map (·.1)) ∧ Grow w0 w' ∧ ∀ k, v'.ownBlock = some k → w0.heap.size ≤ k := by
  obtain ⟨M, h1, h2, ha⟩ := h
  have hl : M.length = xss.length := by rw [← h1, List.length_map]
  refine ⟨L ++ M, by rw [List.map_append, h1], fun e he => ?_, ?_, hg.then ha.but (fun i hi e => by have := hb i e; omega), fun k hk => ?_⟩
  · rcases List.mem_append.1 he with he | he
    · exact hL e he
    · exact h2 e he
  · rw [List.map_append, List.length_append, hl, ← hn]; exact ha.own
  · rcases ha.at' with e | e
    · exact hb k (by rw [← e]; exact hk)
    · rw [e] at hk
      have := Option.some.inj hk
      have := hg.size
      omega
end Go.Proofs.YtmlladpmecclbaaDoor
/- slices.Concat of three rows, and slices.Grow of none, off the library's shelf. -/
namespace Go.Proofs.YtmlladpmecclbaaDoor
open Go.RowKit

def renG : Shelf.Ren := ⟨fun x => if x = 4 then 53 else x, fun x => if x = 22 then 26 else if x = 25 then 22 else if x = 0 then 0 else if x = 3 then 3 else if x = 4 then 4 else if x = 9 then 9 else if x = 20 then 20 else x, fun x => x⟩
theorem laysG : Lays8.n4 Tryd.prog renG where
  mixed := by kernel_rfl
  f4 := ⟨ "slices.Grow[[][]byte,[]byte]", by decide, by kernel_rfl⟩
  t0 := by kernel_rfl
  a0 := fun _ => by kernel_rfl
  z0 := fun _ => by kernel_rfl
  v0 := fun _ => by kernel_rfl
  t3 := by kernel_rfl
  a3 := fun _ => by kernel_rfl
  z3 := fun _ => by kernel_rfl
  v3 := fun _ => by kernel_rfl
  t4 := by kernel_rfl
  a4 := fun _ => by kernel_rfl
  z4 := fun _ => by kernel_rfl
  v4 := fun _ => by kernel_rfl
  t9 := by kernel_rfl
  a9 := fun _ => by kernel_rfl
  z9 := fun _ => by kernel_rfl
  v9 := fun _ => by kernel_rfl
  t20 := by kernel_rfl
  a20 := fun _ => by kernel_rfl
  z20 := fun _ => by kernel_rfl
  v20 := fun _ => by kernel_rfl
  t22 := by kernel_rfl
  a22 := fun _ => by kernel_rfl
  z22 := fun _ => by kernel_rfl
  v22 := fun _ => by kernel_rfl
theorem size_zeroC (z : Array Value) (n : Nat) : (Builtin.zeroCells z n).size = z.size * n := by
  simp [Builtin.zeroCells, Nat.mul_comm]
theorem grow_none (w : World) (n : Nat) (hn : n ≤ 100000) :
    Calls Tryd.prog 53 #[.slice none 0 0, .int .i64 (n : Int)] w fun e w' => ∃ v, e = .returned v ∧ w'.ownsRow 0 22 1 v 0 [] ∧ Grow w w' ∧ ∀ k, v.ownBlock = some k → w.heap.size ≤ k := by
  by_cases h0 : n = 0
  · subst h0
    refine (Any8.slices_Grow_room laysG none 0 0 0 w (by omega) (by omega) (by omega) (by omega)).mono ?_
    rintro e w' ⟨rfl, rfl⟩
    exact ⟨_, rfl, World.ownsRow_nil _ _ _ _, But.refl _ _, fun k hk => by cases hk⟩
  · obtain ⟨i0, hi, hz0, hs, hby⟩ := info_parts infRS
    refine (Any8.slices_Grow_grow laysG i0 (.slice none 0 0) hi hz0 (by rw [hs]; decide) none 0 0 n [] w (by omega) (by omega) (by rw [hby]; omega) (by omega) (by simp) (fun _ => rfl) (fun a h => by cases h)).mono ?_
    rintro e w' ⟨rfl, rfl⟩
    have hG := grownCap_ge w (0 + n) 0 (renG.t 25)
    have hM := grownCap_le_maxLen w (0 + n) 0 (renG.t 25) (by unfold maxLen; omega)
    generalize grownCap w (0 + n) 0 (renG.t 25) = G at hG hM
    have hgw : Grow w (w.drew.alloc (.cells (([] : List Value).toArray ++ Builtin.zeroCells (Value.slice none 0 0).cells (0 + n - 0) ++ Builtin.zeroCells (Value.slice none 0 0).cells (G - (0 + n))) (renG.t 25))) := ((But.refl _ w).drew).alloc _
    refine ⟨_, rfl, ⟨rfl, .inr ⟨w.heap.size, G, _, rfl, Nat.zero_le _, heap_alloc_new w.drew _, Nat.zero_le _, hM, ?_, rfl⟩⟩, hgw, fun k hk => ?_⟩
    · rw [Array.size_append, Array.size_append, size_zeroC, size_zeroC, show (Value.slice none 0 0).cells.size = 1 from rfl]
      simp
      omega
    · have hk' : some w.heap.size = some k := hk
      have := Option.some.inj hk'
      omega
def sN (N : Nat → Nat) : Nat → Nat
  | 0 => 0
  | k + 1 => sN N k + N k
def catN (X : Nat → List (List Nat)) : Nat → List (List Nat)
  | 0 => []
  | k + 1 => catN X k ++ X k
theorem catN_len (X : Nat → List (List Nat)) : ∀ k, (catN X k).length = sN (fun i => (X i).length) k
  | 0 => rfl
  | k + 1 => by rw [catN, List.length_append, catN_len X k]; rfl
theorem sN_le {N : Nat → Nat} (h : ∀ i, i < 3 → N i ≤ 20000) : ∀ k, k ≤ 3 → sN N k ≤ 20000 * k
  | 0, _ => by simp [sN]
  | k + 1, hk => by
    have := sN_le h k (by omega)
    have := h k (by omega)
    rw [sN]; omega
set_option maxRecDepth 100000 in
set_option maxHeartbeats 8000000 in
theorem concat_any {w : World} {g : Nat} {V : Nat → Value} {X : Nat → List (List Nat)} (hc : ∀ i, i < 3 → w.cell? ⟨g, i, none⟩ = some (V i) ∧ Ps w (V i) (X i) ∧ (X i).length ≤ 20000) :
    Calls Tryd.prog 34 #[.slice (some ⟨g, 0, none⟩) 3 3] w fun e w' => ∃ v, e = .returned v ∧ Ps w' v (catN X 3) ∧ (∀ ao n c, v = .slice ao n c → n ≤ c) ∧ Grow w w' := by
  obtain ⟨N, hN⟩ : ∃ N : Nat → Nat, N = fun i => (X i).length := ⟨_, rfl⟩
  have HN := Hid.mk' hN
  have hNb : ∀ i, i < 3 → N i ≤ 20000 := fun i hi => by rw [hN]; exact (hc i hi).2.2
  have HNB := Hid.mk' hNb
  have HC := Hid.mk' hc
  clear hN hNb hc
  go_enter Tryd.func34, Tryd.ntmps34
  go_upto_region 3 with fail
  go_loopw [3, 11] (fun sv iv wr => ∃ k : Nat, k ≤ 3 ∧ iv = .int .i64 k ∧ sv = .int .i64 (sN N k : Nat) ∧ wr = w) (fun _ iv _ => 3 - (intOf iv).toNat)
  case atStart => exact ⟨0, by omega, rfl, rfl, rfl⟩
  case round =>
    obtain ⟨k, hk, rfl, rfl, rfl⟩ := hrel
    have hsk := sN_le HNB.out k hk
    by_cases hlt : k < 3
    · obtain ⟨hcell, hps, -⟩ := HC.out k hlt
      obtain ⟨ua, uc, hve, -⟩ := hps.gen
      rw [hve] at hcell
      have hnk : (X k).length = N k := by rw [HN.out]
      rw [hnk] at hcell
      have hcell2 : wr.cell? ((⟨g, 0, none⟩ : Addr).add k) = some (.slice ua (N k) uc) := by rw [addr_add, Nat.zero_add]; exact hcell
      have hnx := HNB.out k hlt
      have hnext : sN N (k + 1) = sN N k + N k := rfl
      obtain ⟨S, hS⟩ : ∃ S, S = sN N k := ⟨_, rfl⟩
      obtain ⟨M, hM⟩ : ∃ M, M = N k := ⟨_, rfl⟩
      rw [← hS, ← hM] at hnext
      rw [← hM] at hcell hcell2 hnx
      rw [← hS] at hsk ⊢
      have HNX := Hid.mk' hnext
      have hki : (k : Int) < 3 := by omega
      have hw1 : IntKind.i64.wrap ((S : Int) + (M : Int)) = ((S + M : Nat) : Int) := by rw [wrapI (by omega) (by omega)]; omega
      have hneg : ¬ ((S + M : Nat) : Int) < 0 := by omega
      obtain ⟨T, hT⟩ : ∃ T, T = S + M := ⟨_, rfl⟩
      rw [← hT] at hw1 hneg
      have HT := Hid.mk' hT
      have HSS := Hid.mk' hS
      clear hps hve hnk hnext hS hM hT
      go_wp2
      exact ⟨⟨k + 1, by omega, by go_num, by rw [HNX.out, ← HT.out], trivial⟩, by simp [intOf]; omega⟩
    · have hk3 : k = 3 := by omega
      obtain ⟨S, hS⟩ : ∃ S, S = sN N k := ⟨_, rfl⟩
      rw [← hS] at hsk ⊢
      have HSS : Hid (S = sN N 3) := by show _ = _; rw [hS, hk3]
      have hsb : S ≤ 60000 := by omega
      have HGN := Hid.mk' (grow_none wr S (by omega))
      have hki : ¬ (k : Int) < 3 := by omega
      clear hS hk3 hsk
      go_wp2_with fail
      refine Calls.mono HGN.out ?_
      rintro e w2 ⟨v2, rfl, ho2, hg2, hn2⟩
      have HG2 := Hid.mk' hg2
      have HI : Hid (∃ L : List (Value × List Nat), L.map (·.2) = catN X 0 ∧ (∀ e ∈ L, Bs wr e.1 e.2) ∧ w2.ownsRow 0 22 1 v2 L.length (L.map (·.1)) ∧ Grow wr w2 ∧ ∀ k, v2.ownBlock = some k → wr.heap.size ≤ k) := ⟨[], rfl, fun e he => absurd he List.not_mem_nil, ho2, hg2, hn2⟩
      obtain ⟨wo, hwo⟩ : ∃ wo, wo = wr := ⟨_, rfl⟩
      subst hwo
      clear ho2 hg2 hn2 HGN
      clear hki hlt hk
      go_upto_region 11 with fail
      go_loopw [6, 27] (fun xv iv wr => ∃ (k : Nat) (v : Value), v = xv ∧ k ≤ 3 ∧ iv = .int .i64 k ∧ ∃ L : List (Value × List Nat), L.map (·.2) = catN X k ∧ (∀ e ∈ L, Bs wo e.1 e.2) ∧ wr.ownsRow 0 22 1 v L.length (L.map (·.1)) ∧ Grow wo wr ∧ ∀ k, v.ownBlock = some k → wo.heap.size ≤ k) (fun _ iv _ => 3 - (intOf iv).toNat)
      case atStart => exact ⟨0, _, rfl, Nat.zero_le _, rfl, HI.out⟩
      case round =>
        obtain ⟨k, v, hvv, hk, rfl, L, hL1, hL2, hL3, hL4, hL5⟩ := hrel
        subst hvv
        clear HI
        have HL1 := Hid.mk' hL1
        have HL2 := Hid.mk' hL2
        have HL3 := Hid.mk' hL3
        have HL4 := Hid.mk' hL4
        have HL5 := Hid.mk' hL5
        have hLl : L.length = sN N k := by
          have h1 := congrArg List.length hL1
          rw [List.length_map, catN_len, ← HN.out] at h1
          exact h1
        have hsk := sN_le HNB.out k hk
        have HLL : Hid (L.length ≤ 60000) := by show _ ≤ _; omega
        clear hL1 hL2 hL3 hL4 hL5 hLl hsk
        by_cases hlt : k < 3
        · obtain ⟨hcell, hps, -⟩ := HC.out k hlt
          have hnx := HNB.out k hlt
          obtain ⟨ua, uc, hve, -⟩ := hps.gen
          have hcw := grow_cell HL4.out hcell
          obtain ⟨u, hu⟩ : ∃ u, u = V k := ⟨_, rfl⟩
          rw [← hu] at hcw hps hve
          have HPS := Hid.mk' hps
          have hxl : (X k).length = N k := by rw [HN.out]
          rw [hxl] at hve
          obtain ⟨M, hM⟩ : ∃ M, M = N k := ⟨_, rfl⟩
          rw [← hM] at hve hnx hxl
          subst hve
          have hcell2 : wr.cell? ((⟨g, 0, none⟩ : Addr).add k) = some (.slice ua M uc) := by rw [addr_add, Nat.zero_add]; exact hcw
          have HXL := Hid.mk' hxl
          have hki : (k : Int) < 3 := by omega
          clear hcell hps hu hM hxl
          go_wp2_with (first
            | (refine wpList_someH rfl (exec_appendP (w0 := wo) (v := v) (u := .slice ua M uc) (n := L.length) (xs := L.map (·.1)) (xss := X k) rfl rfl HL3.out rfl HL4.out HPS.out (by have := HLL.out; have := HXL.out; omega)) ?_; intro v7 w7 hap)
            | fail)
          obtain ⟨N', q1, q2, q3, q4, q5⟩ := ps_app (L := L) rfl HL4.out HL2.out HL5.out hap
          exact ⟨⟨k + 1, v7, rfl, by omega, by go_num, N', by rw [q1, HL1.out]; rfl, q2, q3, q4, q5⟩, by simp [intOf]; omega⟩
        · have hk3 : k = 3 := by omega
          have hps : Ps wr v (catN X 3) := by
            have := ps_row HL3.out (fun e he => (HL2.out e he).but HL4.out (fun _ _ _ h => h))
            rw [HL1.out, hk3] at this
            exact this
          have hcp : ∀ ao n c, v = .slice ao n c → n ≤ c := fun ao n c e => by
            subst e
            obtain ⟨-, ⟨h1, h2⟩ | ⟨g', c', cur, h1, -, -, h3, -⟩⟩ := HL3.out
            · simp only [Value.slice.injEq] at h1
              omega
            · simp only [Value.slice.injEq] at h1
              omega
          have HPSF := Hid.mk' hps
          have HCPF := Hid.mk' hcp
          have hki : ¬ (k : Int) < 3 := by omega
          clear hps hcp hk3
          go_wp2
          go_ret
          exact ⟨_, rfl, HPSF.out, HCPF.out, HL4.out⟩
end Go.Proofs.YtmlladpmecclbaaDoor
/- bytes.Join, off the library's shelf. -/
namespace Go.Proofs.YtmlladpmecclbaaDoor
open Go.RowKit

def renJ : Shelf.Ren := ⟨fun x => if x = 14 then 52 else if x = 15 then 68 else x, fun x => if x = 22 then 22 else if x = 26 then 26 else if x = 0 then 0 else if x = 3 then 3 else if x = 4 then 4 else if x = 9 then 9 else if x = 20 then 20 else if x = 5 then 5 else x, fun x => x⟩
theorem laysJ : SlLaysJ.n14 Tryd.prog renJ where
  mixed := by kernel_rfl
  f14 := by kernel_rfl
  f15 := by kernel_rfl
  t0 := by kernel_rfl
  a0 := fun _ => by kernel_rfl
  z0 := fun _ => by kernel_rfl
  v0 := fun _ => by kernel_rfl
  t3 := by kernel_rfl
  a3 := fun _ => by kernel_rfl
  z3 := fun _ => by kernel_rfl
  v3 := fun _ => by kernel_rfl
  t4 := by kernel_rfl
  a4 := fun _ => by kernel_rfl
  z4 := fun _ => by kernel_rfl
  v4 := fun _ => by kernel_rfl
  t9 := by kernel_rfl
  a9 := fun _ => by kernel_rfl
  z9 := fun _ => by kernel_rfl
  v9 := fun _ => by kernel_rfl
  t20 := by kernel_rfl
  a20 := fun _ => by kernel_rfl
  z20 := fun _ => by kernel_rfl
  v20 := fun _ => by kernel_rfl
  t22 := by kernel_rfl
  a22 := fun _ => by kernel_rfl
  z22 := fun _ => by kernel_rfl
  v22 := fun _ => by kernel_rfl
  t26 := by kernel_rfl
  a26 := fun _ => by kernel_rfl
  z26 := fun _ => by kernel_rfl
  v26 := fun _ => by kernel_rfl
  t5 := by kernel_rfl
  z5 := fun _ => by kernel_rfl
  i5 := by kernel_rfl
abbrev b8s (xs : List Nat) : List UInt8 := xs.map UInt8.ofNat
theorem b8s_nat {xs : List Nat} (h : ∀ z ∈ xs, z < 256) : (b8s xs).map UInt8.toNat = xs := by
  induction xs with
  | nil => rfl
  | cons a l ih =>
    simp only [b8s, List.map_cons] at ih ⊢
    rw [ih (fun z hz => h z (List.mem_cons_of_mem _ hz))]
    congr 1
    have := h a List.mem_cons_self
    simp; omega
theorem Bs.holds {w : World} {v : Value} {xs : List Nat} (h : Bs w v xs) : Lib.HoldsBytes w v (b8s xs) := by
  have hlt := h.1
  obtain ⟨ao, cap, rfl, hn, hc⟩ := h.gen
  refine ⟨ao, cap, by simp [b8s], fun e => by rw [List.eq_nil_of_length_eq_zero (hn e).1]; rfl, fun a ha i x hx => ?_⟩
  have hi : i < xs.length := by have := (List.getElem?_eq_some_iff.1 hx).1; simpa [b8s] using this
  rw [hc a ha i _ (u8s_get xs i hi)]
  have hg := getD_mem xs i hi
  have h2 := hlt _ hg
  have : x = UInt8.ofNat (xs.getD i 0) := by
    simp [b8s, hi] at hx
    rw [← hx]; simp [List.getD, hi]
  rw [this]
  generalize xs.getD i 0 = q at *
  simp
  omega
theorem fresh_bs {B : Nat} {w : World} {v : Value} {xs : List Nat} (hx : ∀ z ∈ xs, z < 256) (h : Lib.FreshBytes B w v (b8s xs)) (hl : xs.length ≤ 281474976710656) : Bs w v xs ∧ ∀ k, v.ownBlock = some k → B ≤ k := by
  obtain ⟨g, cap, zs, rfl, hg, h1, h2, h3, h4, h5, h6, _⟩ := h
  have hlen : (b8s xs).length = xs.length := by simp [b8s]
  rw [hlen] at h1 h5 ⊢
  refine ⟨⟨hx, hl, ?_⟩, fun k hk => by cases hk; exact hg⟩
  by_cases h0 : xs = []
  · subst h0; exact .inl ⟨rfl, .inr ⟨_, _, rfl⟩⟩
  · have hpos : 0 < xs.length := List.length_pos_iff.2 h0
    have hc0 := h6 0 (by omega)
    refine .inr ⟨hpos, g, 0, cap, rfl, h1, World.block_lt_of_cell? _ _ hc0, fun i hi => ?_⟩
    rw [Nat.zero_add, h6 i (by omega)]
    have hz := h4 (zs.getD i 0) (by simp [List.getD, show i < zs.length by omega])
    have hiz : i < zs.length := by omega
    have e3 : zs.getD i 0 = zs[i] := by simp [List.getD, hiz]
    have e4 : xs.getD i 0 = xs[i] := by simp [List.getD, hi]
    have hxi := hx _ (getD_mem xs i hi)
    rw [e3] at hz ⊢
    rw [e4] at hxi ⊢
    have e := congrArg (fun l : List UInt8 => l[i]?) h5
    simp [Lib.bytesOf, b8s, hi, hiz] at e
    have e5 := congrArg UInt8.toNat e
    simp at e5
    congr 2
    omega
theorem join_flat : ∀ (xss : List (List UInt8)), Lib.join xss [] = xss.flatten
  | [] => rfl
  | [x] => by simp [Lib.join_one]
  | x :: y :: l => by
    have := join_flat (y :: l)
    simp only [Lib.join, List.intercalate, List.intersperse, List.flatten_cons, List.nil_append] at this ⊢
    rw [this]
theorem b8s_flat (xss : List (List Nat)) : (xss.map b8s).flatten = b8s xss.flatten := by
  simp [b8s, List.map_flatten]
/-- The parts, one behind the other, in memory that is new. -/
theorem join_any {w : World} {v : Value} {xss : List (List Nat)} (hv : Ps w v xss) (h1 : 1 ≤ xss.length) (h2 : xss.length ≤ 100000) (hlen : xss.flatten.length ≤ 1000000) (hcap : ∀ ao n c, v = .slice ao n c → n ≤ c) :
    Calls Tryd.prog 52 #[v, .slice none 0 0] w fun e w' => ∃ v', e = .returned v' ∧ Bs w' v' xss.flatten ∧ (0 < xss.flatten.length → ∀ k, v'.ownBlock = some k → w.heap.size ≤ k) ∧ Grow w w' := by
  obtain ⟨ao, cap, rfl, hg⟩ := hv.gen
  obtain ⟨b, off, rfl, hb, hc⟩ := hg (by omega)
  have hlt : ∀ z ∈ xss.flatten, z < 256 := fun z hz => by
    obtain ⟨l, hl, hz2⟩ := List.mem_flatten.1 hz
    obtain ⟨i, hi⟩ := List.mem_iff_getElem?.1 hl
    have hi2 := (List.getElem?_eq_some_iff.1 hi).1
    obtain ⟨u, _, hu⟩ := hc i hi2
    have : xss.getD i [] = l := by simp [List.getD, hi]
    rw [this] at hu
    exact hu.1 z hz2
  have hadd : ∀ i, (⟨b, off, none⟩ : Addr).add i = ⟨b, off + i, none⟩ := fun i => by simp [Addr.add]
  by_cases hone : xss.length = 1
  · obtain ⟨xs, rfl⟩ : ∃ xs, xss = [xs] := by
      match xss, hone with
      | [xs], _ => exact ⟨xs, rfl⟩
    obtain ⟨u, hcu, hbu⟩ := hc 0 (by simp)
    have hbu' : Bs w u xs := hbu
    have hfl : ([xs] : List (List Nat)).flatten = xs := by simp
    rw [hfl] at hlen hlt ⊢
    have hh := hbu'.holds
    obtain ⟨p0, c0, rfl, hp0, hcell⟩ := hh
    rw [Nat.add_zero] at hcu
    by_cases h0 : xs = []
    · subst h0
      refine (Any.bytes_Join_one_empty laysJ b off cap p0 c0 (.slice none 0 0) w hcu).mono ?_
      rintro e w' ⟨rfl, rfl⟩
      exact ⟨_, rfl, Bs.nil _, fun h => absurd h (by simp), But.refl _ _⟩
    · have hpos : 0 < xs.length := List.length_pos_iff.2 h0
      have hpos2 : 0 < (b8s xs).length := by simpa [b8s] using hpos
      cases p0 with
      | none => have := hp0 rfl; rw [this] at hpos2; simp at hpos2
      | some ad =>
        refine (Any.bytes_Join_one laysJ b off cap ad c0 (b8s xs) (.slice none 0 0) w hcu (hcell ad rfl) hpos2 (by simp [b8s]; omega)).mono ?_
        rintro e w' ⟨v', rfl, hf, hbl⟩
        obtain ⟨q1, q2⟩ := fresh_bs hlt hf (by omega)
        exact ⟨v', rfl, q1, fun _ => q2, But.of hbl⟩
  · have hex : ∀ i, i < xss.length → ∃ u, w.cell? ⟨b, off + i, none⟩ = some u ∧ Bs w u (xss.getD i []) := hc
    obtain ⟨V, hV⟩ := Deep.choose_lt (α := Value) (p := fun i u => w.cell? ⟨b, off + i, none⟩ = some u ∧ Bs w u (xss.getD i [])) hex
    refine (Any.bytes_Join_many laysJ b off xss.length cap ((List.range xss.length).map V) (xss.map b8s) (.slice none 0 0) [] w (by simp) (by omega) ⟨by simp, fun i u hu => ?_, fun i u l hu hl => ?_⟩ ?_ ⟨none, 0, rfl, fun _ => rfl, fun a ha => by cases ha⟩ (by omega) ?_).mono ?_
    · have hi : i < xss.length := by have := (List.getElem?_eq_some_iff.1 hu).1; simpa using this
      simp [hi] at hu
      rw [hadd, ← hu]
      exact (hV i hi).1
    · have hi : i < xss.length := by have := (List.getElem?_eq_some_iff.1 hu).1; simpa using this
      simp [hi] at hu hl
      rw [← hu, ← hl]
      have := (hV i hi).2.holds
      have e : xss.getD i [] = xss[i] := by simp [List.getD, hi]
      rw [e] at this
      exact this
    · exact hcap _ _ _ rfl
    · have : Lib.lens (xss.map b8s) = xss.flatten.length := by
        rw [List.length_flatten]
        simp [Lib.lens, b8s, List.map_map, Function.comp_def]
      rw [this]
      simp only [List.length_nil, Nat.zero_mul, Nat.add_zero]
      omega
    · rintro e w' ⟨v', rfl, hf, hbl⟩
      rw [join_flat, b8s_flat] at hf
      obtain ⟨q1, q2⟩ := fresh_bs hlt hf (by omega)
      exact ⟨v', rfl, q1, fun _ => q2, But.of hbl⟩
end Go.Proofs.YtmlladpmecclbaaDoor
/- Arrays of bytes held against each other. -/
namespace Go.Proofs.YtmlladpmecclbaaDoor
open Go.RowKit

theorem eqItems_any (D E : List Nat) (d : Nat) (w : World) (is : List Nat) (hD : ∀ j ∈ is, j < D.length) (hE : ∀ j ∈ is, j < E.length) :
    (Op.eqItems (d + 1) 5 1 (u8s D).toArray (u8s E).toArray is).run Tryd.prog w = .ok (is.all fun j => D.getD j 0 == E.getD j 0) w := by
  induction is with
  | nil => simp [Op.eqItems]
  | cons j is ih =>
    have hd := hD j (by simp)
    have he := hE j (by simp)
    have h2 : (isAgg 5).run Tryd.prog w = .ok false w := by kernel_rfl
    have hp : ∀ (D : List Nat), j < D.length → (part 5 (u8s D).toArray (j * 1)).run Tryd.prog w = .ok (.int .u8 (D.getD j 0 : Nat)) w := by
      intro D hj
      have hc : (u8s D).toArray[j * 1]? = some (.int .u8 (D.getD j 0 : Nat)) := by
        rw [Nat.mul_one, List.getElem?_toArray]; exact u8s_get D j hj
      unfold part
      rw [Sem.run_bind, h2, Result.andThen_ok, hc]
      rfl
    simp only [Op.eqItems, Sem.run_bind, hp D hd, hp E he, Result.andThen_ok]
    rw [run_equalIn_int w d 5 .u8 .u8 _ _ Tryd.underlying5]
    have ih2 := ih (fun k hk => hD k (by simp [hk])) (fun k hk => hE k (by simp [hk]))
    by_cases e : D.getD j 0 = E.getD j 0
    · have e2 : ((D.getD j 0 : Int) == (E.getD j 0 : Int)) = true := by rw [e]; simp
      have e3 : (D.getD j 0 == E.getD j 0) = true := by simpa using e
      simp only [Result.andThen_ok, List.all_cons, e2, e3, Bool.true_and]
      simpa using ih2
    · have e2 : ((D.getD j 0 : Int) == (E.getD j 0 : Int)) = false := by
        rw [beq_eq_false_iff_ne]; intro h; exact e (by omega)
      have e3 : (D.getD j 0 == E.getD j 0) = false := by simpa using e
      simp only [Result.andThen_ok, List.all_cons, e2, e3, Bool.false_and]
      simp
theorem equalN {T : TypeId} {n : Nat} (hT : Tryd.prog.underlying T = some (.array n 5)) (D E : List Nat) (hD : D.length = n) (hE : E.length = n) (w : World) :
    (Op.equalIn 10000 T (.agg (u8s D).toArray) (.agg (u8s E).toArray)).run Tryd.prog w = .ok (decide (D = E)) w := by
  obtain ⟨i, hi⟩ : ∃ i, Tryd.prog.info? 5 = some i := by
    obtain ⟨i0, hi, _⟩ := info_parts u8info
    exact ⟨i0, hi⟩
  have hc : Tryd.prog.cellsOf 5 = 1 := by kernel_rfl
  rw [run_equalIn_array w 9999 _ _ hT hi, hc]
  rw [eqItems_any D E 9998 w _ (by intro j hj; rw [hD]; simpa using hj) (by intro j hj; rw [hE]; simpa using hj)]
  obtain ⟨b, hb⟩ : ∃ b, b = ((List.range n).all fun j => D.getD j 0 == E.getD j 0) := ⟨_, rfl⟩
  rw [← hb]
  have e : b = decide (D = E) := by
    rw [hb, Bool.eq_iff_iff, List.all_eq_true, decide_eq_true_iff]
    constructor
    · intro h
      apply List.ext_getElem (by rw [hD, hE])
      intro k h1 h2
      have h3 := h k (by simp; omega)
      simpa [List.getD, h1, h2] using h3
    · rintro rfl j _
      simp
  rw [e]
end Go.Proofs.YtmlladpmecclbaaDoor
/- A region that draws its order, all of whose operations but the last one yield the same values in every world of a class (they read, or call what only makes new memory), the last one waiting for all others. -/
namespace Go.Proofs.YtmlladpmecclbaaDoor
open Go.RowKit
variable {P : Program} {l : List Oper} {o : Oper} {Q : Exit → Act → World → Prop}
theorem region_class {id : Nat} {a : Act} {w : World} (C : World → Prop) (hm : P.follows .mixedOrders = true) (hB : Region.lexB .any l.toArray = true) (hg : l.all (fun x => x.guard.isNone) = true) (hgo : o.guard = none) (ha : ahead (l ++ [o]).toArray = true) (hf : lastFull l o = true)
    (h0 : C w.drew) (h : wpQuiet P l.toArray C (fun a' => ∀ w', C w' → wpList P (l ++ [o]).toArray Q [o] a' w') l a) : (Code.region id (l ++ [o]).toArray true).wp P Q a w := by
  simp only [Region.lexB, Bool.and_eq_true] at hB
  refine wp_region_any hm ?_
  have hq := wpAnyQ_lex (C := C) (md := .any) hB.1 l 0 (Array.replicate l.length false) a (by simp) (by simpa using hB.2) h
  have e : Array.replicate (l ++ [o]).toArray.size false = (List.replicate l.length false ++ [false]).toArray := by
    rw [← List.replicate_succ']; simp
  rw [e]
  have e2 : (l ++ [o]).toArray.size = l.length + 1 := by simp
  rw [e2]
  refine last_inv (C := C) (Qq := fun a' => ∀ w', C w' → wpList P (l ++ [o]).toArray Q [o] a' w') hg hgo ha hf (fun a w hC h => h w hC) l.length (List.replicate l.length false) a _ (by simp) (by simp) ?_ h0 (by simpa using hq)
  intro i x _ h1
  simp only [List.getD, List.getElem?_replicate] at h1
  split at h1 <;> cases h1
variable {ops : Array Oper} {C : World → Prop} {rest : List Oper} {a : Act} {Qa : Act → Prop}
/-- An operation that yields v in every world of the class. -/
theorem class_val (v : Value) (hg : o.guard = none) (h : ∀ w, C w → (execOp a.eval o).run P w = .ok (.value v) w) (h2 : ∀ K : Act → Prop, (∀ a, wpQuiet P ops C Qa rest a → K a) → K (a.put o.dst v)) : wpQuiet P ops C Qa (o :: rest) a := by
  unfold wpQuiet
  have e : Region.wanted o (yielded ops a.tmps) = true := by unfold Region.wanted; rw [hg]
  rw [if_pos e]
  refine ⟨v, fun w hw => ?_, h2 _ (fun _ h => h)⟩
  unfold Oper.quietAt
  rw [h w hw]
  exact ⟨rfl, rfl⟩
/-- A call that yields v in every world of the class, and leaves one. -/
theorem class_call (v : Value) (f : FuncId) (args : Array Value) (hg : o.guard = none) (h : ∀ w, C w → (execOp a.eval o).run P w = .ok (.enter f args) w) (hc : ∀ w, C w → Calls P f args w fun e w' => e = .returned v ∧ C w') (h2 : ∀ K : Act → Prop, (∀ a, wpQuiet P ops C Qa rest a → K a) → K (a.put o.dst v)) : wpQuiet P ops C Qa (o :: rest) a := by
  unfold wpQuiet
  have e : Region.wanted o (yielded ops a.tmps) = true := by unfold Region.wanted; rw [hg]
  rw [if_pos e]
  refine ⟨v, fun w hw => ?_, h2 _ (fun _ h => h)⟩
  unfold Oper.quietAt
  rw [h w hw]
  exact ⟨rfl, hc w hw⟩
end Go.Proofs.YtmlladpmecclbaaDoor
