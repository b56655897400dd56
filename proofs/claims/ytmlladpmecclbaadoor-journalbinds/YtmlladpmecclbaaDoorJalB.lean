/- Guards, GhostMem, GhLog, GhLeaf, GhTell, GhOps, GhNote, GhSealed, GhStray, GhOpened, GhTwice, GhOpnd, GhBlocks, ShaMath, ShaRef, ShaRot, ShaSpread, ShaMix, ShaPut, ShaGrow, ShaMem, ShaWrite, ShaPad, ShaSum, ShaOf, ShaLaid, ShaEq, GhHash, GhAwake, Sizes. -/
import Derived.Test.YtmlladpmecclbaaDoorJalA
import Derived.Maps.AppendAt
import Derived.Deep.Cut
import Derived.WalkMore
import Derived.Laws.BitsAllLaws
import Derived.Laws.CopyOwn
import Derived.BigRegion
import Derived.Laws.CopyRow
import Derived.Test.YtmlladpmecclbaaDoorRows
import Derived.Test.YtmlladpmecclbaaDoorTie
import Derived.Test.YtmlladpmecclbaaDoorCards
import Derived.ProofKit
import Derived.LaidMore
import Derived.OpenShut
import Derived.SevenTiedAt
import Derived.ChangeKeysEq
import Derived.Laws.Cover3
import Derived.Laws.Pointers
/- Operations behind a guard that holds; regions that draw, all of whose operations yield the same values in every world of a class. -/
namespace Go.Proofs.YtmlladpmecclbaaDoor
open Go.RowKit
theorem wpList_want {P : Program} {ops : Array Oper} {Q : Exit → Act → World → Prop} {a : Act} {w : World} {rest : List Oper} {o : Oper} (hw : Region.wanted o (yielded ops a.tmps) = true)
    (h : ∀ K : Act → World → Prop, (∀ a w, wpList P ops Q rest a w → K a w) → o.wp P a w K Q) : wpList P ops Q (o :: rest) a w :=
  wpList_step fun K hK => by simp only [hw, if_true]; exact h K hK
/-- A whole array of bytes out of a variable, behind a guard. -/
theorem wpList_load_u8s_g {T : TypeId} {n : Nat} {l : Nat} {e : TypeId} (hu : Tryd.prog.underlying T = some (.array l e)) (hi : (Tryd.prog.info? T).map (·.size) = some n)
    {w : World} {ops : Array Oper} {rest : List Oper} {o : Oper} {a : Act} {Q : Exit → Act → World → Prop} (hw : Region.wanted o (yielded ops a.tmps) = true) (x : Operand) (ho : o.op = .load T x)
    (g : Nat) (D : List Nat) (hD : D.length = n) (hx : a.eval x = .pointer (some ⟨g, 0, none⟩)) (hb : Blk w g T (u8s D))
    (h : wpList Tryd.prog ops Q rest (a.put o.dst (.agg (u8s D).toArray)) w) : wpList Tryd.prog ops Q (o :: rest) a w :=
  wpList_want hw fun _ hK => op_load_u8s hu hi x ho g D hD hx hb (hK _ _ h)
section
variable {P : Program} {l : List Oper} {o : Oper} {Q : Exit → Act → World → Prop}
theorem region_same {id : Nat} {a : Act} {w : World} (C : World → Prop) (hm : P.follows .mixedOrders = true) (hB : Region.lexB .any l.toArray = true)
    (h0 : C w.drew) (h : wpQuiet P l.toArray C (fun a' => ∀ w', C w' → Q .normal a' w') l a) : (Code.region id l.toArray true).wp P Q a w :=
  wp_region_quiet (C := C) hm hB h0 (by simpa using h)
variable {ops : Array Oper} {C : World → Prop} {rest : List Oper} {a : Act} {Qa : Act → Prop}
theorem guard_val (v : Value) (hw : Region.wanted o (yielded ops a.tmps) = true) (h : ∀ w, C w → (execOp a.eval o).run P w = .ok (.value v) w) (h2 : ∀ K : Act → Prop, (∀ a, wpQuiet P ops C Qa rest a → K a) → K (a.put o.dst v)) : wpQuiet P ops C Qa (o :: rest) a := by
  unfold wpQuiet
  rw [if_pos hw]
  refine ⟨v, fun w hw => ?_, h2 _ (fun _ h => h)⟩
  unfold Oper.quietAt
  rw [h w hw]
  exact ⟨rfl, rfl⟩
theorem guard_call (v : Value) (f : FuncId) (args : Array Value) (hw : Region.wanted o (yielded ops a.tmps) = true) (h : ∀ w, C w → (execOp a.eval o).run P w = .ok (.enter f args) w) (hc : ∀ w, C w → Calls P f args w fun e w' => e = .returned v ∧ C w') (h2 : ∀ K : Act → Prop, (∀ a, wpQuiet P ops C Qa rest a → K a) → K (a.put o.dst v)) : wpQuiet P ops C Qa (o :: rest) a := by
  unfold wpQuiet
  rw [if_pos hw]
  refine ⟨v, fun w hw => ?_, h2 _ (fun _ h => h)⟩
  unfold Oper.quietAt
  rw [h w hw]
  exact ⟨rfl, hc w hw⟩
/-- An operation behind a guard that does not hold. -/
theorem guard_skip (hw : Region.wanted o (yielded ops a.tmps) = false) (h2 : ∀ K : Act → Prop, (∀ a, wpQuiet P ops C Qa rest a → K a) → K (a.put o.dst undef)) : wpQuiet P ops C Qa (o :: rest) a := by
  unfold wpQuiet
  rw [if_neg (by rw [hw]; decide)]
  exact h2 _ (fun _ h => h)
end
/-- A whole array of bytes, as what an operation runs to. -/
theorem run_load_u8s {T : TypeId} {n l : Nat} {e : TypeId} (hu : Tryd.prog.underlying T = some (.array l e)) (hi : (Tryd.prog.info? T).map (·.size) = some n) {w : World} {o : Oper} {a : Act} {x : Operand} {g : Nat} {D : List Nat} (hb : Blk w g T (u8s D)) (hD : D.length = n)
    (ho : o.op = .load T x) (hx : a.eval x = .pointer (some ⟨g, 0, none⟩)) : (execOp a.eval o).run Tryd.prog w = .ok (.value (.agg (u8s D).toArray)) w := by
  have h := run_loadVar_cells w ⟨g, 0, none⟩ T (u8s D) _ (by
    intro j v hv
    have e : (⟨g, 0, none⟩ : Addr).add j = ⟨g, j, none⟩ := by simp [Addr.add]; exact fun h => h.symm
    rw [e, hb.cell]; exact hv) hu rfl (by rw [hi]; simp [u8s, hD])
  unfold execOp
  simp only [ho, hx, Instr.loadAt, Instr.sureAddr, Sem.run_bind, Sem.run_pure, Result.andThen_ok, h]
end Go.Proofs.YtmlladpmecclbaaDoor
/- Tuples: an epoch, a nonce, what goes along, what was sealed; the reference's Same. -/
namespace Go.Proofs.YtmlladpmecclbaaDoor
open Go.RowKit

theorem Bf.mono {F G : Nat → Prop} {w : World} {v : Value} {xs : List Nat} (h : Bf w F v xs) (hg : ∀ j, F j → G j) : Bf w G v xs := ⟨h.1, fun h0 j hj => hg j (h.2 h0 j hj)⟩
theorem Bf.then {F : Nat → Prop} {w w' : World} {v : Value} {xs : List Nat} (h : Bf w F v xs) (k : But (fun _ => False) w w') : Bf w' F v xs := h.but k (fun _ _ h => h)
abbrev Tup := Nat × List Nat × List Nat × List Nat
def tcells (T : Tup) (va vs : Value) : List Value := .int .u32 (T.1 : Int) :: (u8s T.2.1 ++ [va, vs])
structure Tv (w : World) (F : Nat → Prop) (T : Tup) (va vs : Value) : Prop where
  ep : T.1 < 4294967296
  nl : T.2.1.length = 12
  nt : ∀ z ∈ T.2.1, z < 256
  aad : Bf w F va T.2.2.1
  sea : Bf w F vs T.2.2.2
theorem Tv.but {F R : Nat → Prop} {w w' : World} {T : Tup} {va vs : Value} (h : Tv w F T va vs) (k : But R w w') (hr : ∀ j, F j → ¬ R j) : Tv w' F T va vs := ⟨h.ep, h.nl, h.nt, h.aad.but k hr, h.sea.but k hr⟩
theorem Tv.then {F : Nat → Prop} {w w' : World} {T : Tup} {va vs : Value} (h : Tv w F T va vs) (k : But (fun _ => False) w w') : Tv w' F T va vs := h.but k (fun _ _ h => h)
theorem Tv.mono {F G : Nat → Prop} {w : World} {T : Tup} {va vs : Value} (h : Tv w F T va vs) (hg : ∀ j, F j → G j) : Tv w G T va vs := ⟨h.ep, h.nl, h.nt, h.aad.mono hg, h.sea.mono hg⟩
theorem tcells_len {T : Tup} (h : T.2.1.length = 12) (va vs : Value) : (tcells T va vs).length = 15 := by simp [tcells, u8s, h]
theorem tcells_0 (T : Tup) (va vs : Value) : (tcells T va vs)[0]? = some (.int .u32 (T.1 : Int)) := rfl
theorem tcells_non {T : Tup} (h : T.2.1.length = 12) (va vs : Value) (j : Nat) (v : Value) (hv : (u8s T.2.1)[j]? = some v) : (tcells T va vs)[1 + j]? = some v := by
  have hj : j < 12 := by
    have := (List.getElem?_eq_some_iff.1 hv).1
    simp [u8s] at this; omega
  unfold tcells
  rw [Nat.add_comm, List.getElem?_cons_succ, List.getElem?_append_left (by simp [u8s]; omega)]
  exact hv
theorem tcells_13 {T : Tup} (h : T.2.1.length = 12) (va vs : Value) : (tcells T va vs)[13]? = some va := by
  have hl : (u8s T.2.1).length = 12 := by simp [u8s, h]
  show (u8s T.2.1 ++ [va, vs])[12]? = some va
  rw [List.getElem?_append_right (by omega), hl]; rfl
theorem tcells_14 {T : Tup} (h : T.2.1.length = 12) (va vs : Value) : (tcells T va vs)[14]? = some vs := by
  have hl : (u8s T.2.1).length = 12 := by simp [u8s, h]
  show (u8s T.2.1 ++ [va, vs])[13]? = some vs
  rw [List.getElem?_append_right (by omega), hl]; rfl
theorem i12 : (Tryd.prog.info? 144).map (·.size) = some 12 := by kernel_rfl
theorem wpList_load_cells_g {ops : Array Oper} {rest : List Oper} {o : Oper} {a : Act} {w : World} {Q : Exit → Act → World → Prop} (hw : Region.wanted o (yielded ops a.tmps) = true) (ty : TypeId) (x : Operand) (ho : o.op = .load ty x)
    (ad : Addr) (hx : a.eval x = .pointer (some ad)) (cs : List Value) (d : TypeDesc) (hc : ∀ j v, cs[j]? = some v → w.cell? (ad.add j) = some v)
    (hu : Tryd.prog.underlying ty = some d) (hd : (match d with | .struct _ | .array _ _ => true | _ => false) = true) (hi : (Tryd.prog.info? ty).map (·.size) = some cs.length)
    (h : wpList Tryd.prog ops Q rest (a.put o.dst (.agg cs.toArray)) w) : wpList Tryd.prog ops Q (o :: rest) a w :=
  wpList_want hw fun _ hK => by
    unfold Oper.wp execOp
    simp only [ho, hx, Instr.loadAt, Instr.sureAddr, Sem.run_bind, Sem.run_pure, Result.andThen_ok, run_loadVar_cells w ad ty cs d hc hu hd hi]
    exact hK _ _ h
/-- The nonce of a tuple in a block of its own. -/
theorem tup_non {w : World} {g : Nat} {X : TypeId} {T : Tup} {va vs : Value} (hb : Blk w g X (tcells T va vs)) (h : T.2.1.length = 12) : ∀ j v, (u8s T.2.1)[j]? = some v → w.cell? ((⟨g, 1, none⟩ : Addr).add j) = some v := by
  intro j v hv
  have e : (⟨g, 1, none⟩ : Addr).add j = ⟨g, 1 + j, none⟩ := by simp [Addr.add]
  rw [e, hb.cell]
  exact tcells_non h va vs j v hv
end Go.Proofs.YtmlladpmecclbaaDoor
/- Own rows of bytes, tuples and pairs; whose block is whose; the program's log in memory. -/
namespace Go.Proofs.YtmlladpmecclbaaDoor
open Go.RowKit

abbrev TE := Tup × Value × Value
def tc (e : TE) : List Value := tcells e.1 e.2.1 e.2.2
structure TRow (w : World) (Fr G : Nat → Prop) (v : Value) (L : List TE) : Prop where
  row : RowOf w Fr 148 15 v L.length (L.flatMap tc)
  el : ∀ e ∈ L, Tv w G e.1 e.2.1 e.2.2
theorem TRow.but {R Fr G Fr' G' : Nat → Prop} {w w' : World} {v : Value} {L : List TE} (h : TRow w Fr G v L) (k : But R w w') (hr : ∀ j, Fr j → ¬ R j) (hg : ∀ j, G j → ¬ R j) (h1 : ∀ j, Fr j → Fr' j) (h2 : ∀ j, G j → G' j) : TRow w' Fr' G' v L :=
  ⟨h.row.but k hr h1, fun e he => ((h.el e he).but k hg).mono h2⟩
theorem TRow.nil (w : World) (Fr G : Nat → Prop) : TRow w Fr G (.slice none 0 0) [] := ⟨RowOf.nil _ _ _ _, fun _ he => absurd he List.not_mem_nil⟩
abbrev BE := Value × List Nat
structure BRow (w : World) (Fr G : Nat → Prop) (v : Value) (L : List BE) : Prop where
  row : RowOf w Fr 22 1 v L.length (L.map (·.1))
  el : ∀ e ∈ L, Bf w G e.1 e.2
theorem BRow.but {R Fr G Fr' G' : Nat → Prop} {w w' : World} {v : Value} {L : List BE} (h : BRow w Fr G v L) (k : But R w w') (hr : ∀ j, Fr j → ¬ R j) (hg : ∀ j, G j → ¬ R j) (h1 : ∀ j, Fr j → Fr' j) (h2 : ∀ j, G j → G' j) : BRow w' Fr' G' v L :=
  ⟨h.row.but k hr h1, fun e he => ((h.el e he).but k hg).mono h2⟩
theorem BRow.nil (w : World) (Fr G : Nat → Prop) : BRow w Fr G (.slice none 0 0) [] := ⟨RowOf.nil _ _ _ _, fun _ he => absurd he List.not_mem_nil⟩
abbrev Pr := List Nat × List Nat
def p0 : Pr := ([], [])
def t0 : Tup := (0, [], [], [])
def wf32 (D : List Nat) : Prop := D.length = 32 ∧ ∀ z ∈ D, z < 256
abbrev PE := Pr × Value
def pc (e : PE) : List Value := e.2 :: u8s e.1.2
def dkey (D : List Nat) : Value := .agg (u8s D).toArray
theorem u8s_inj {a b : List Nat} (h : u8s a = u8s b) : a = b := by
  have : ∀ {a b : List Nat}, u8s a = u8s b → a = b := by
    intro a
    induction a with
    | nil => intro b h; cases b with
      | nil => rfl
      | cons y b => simp [u8s] at h
    | cons x a ih => intro b h; cases b with
      | nil => simp [u8s] at h
      | cons y b =>
        simp only [u8s, List.map_cons, List.cons.injEq, Value.int.injEq, true_and] at h
        rw [show x = y by omega, ih h.2]
  exact this h
theorem dkey_inj {a b : List Nat} (h : dkey a = dkey b) : a = b := u8s_inj (by simpa [dkey] using h)
def ucells (e : Nat) (n : List Nat) : List Value := .int .u32 (e : Int) :: u8s n
def ukey (e : Nat) (n : List Nat) : Value := .agg (ucells e n).toArray
theorem ukey_inj {e e' : Nat} {n n' : List Nat} (h : ukey e n = ukey e' n') : e = e' ∧ n = n' := by
  simp only [ukey, ucells, Value.agg.injEq, Array.mk.injEq, List.cons.injEq, Value.int.injEq, true_and] at h
  exact ⟨by omega, u8s_inj h.2⟩
def wfU (e : Nat) (n : List Nat) : Prop := e < 4294967296 ∧ n.length = 12 ∧ ∀ z ∈ n, z < 256

/-- The first pair that p joins: the first place j that has one ahead of it, and the first such one. -/
def Fst2 (p : Nat → Nat → Bool) (n : Nat) : Option (Nat × Nat) → Prop
  | none => ∀ j, j < n → ∀ i, i < j → p i j = false
  | some (i, j) => i < j ∧ j < n ∧ p i j = true ∧ (∀ k, k < i → p k j = false) ∧ ∀ l, l < j → ∀ k, k < l → p k l = false
theorem Fst2.uniq {p : Nat → Nat → Bool} {n : Nat} {r s : Option (Nat × Nat)} (h : Fst2 p n r) (k : Fst2 p n s) : r = s := by
  have key : ∀ {i j i' j' : Nat}, Fst2 p n (some (i, j)) → Fst2 p n (some (i', j')) → ¬ j < j' := by
    intro i j i' j' h k hlt
    have := k.2.2.2.2 j hlt i h.1
    rw [h.2.2.1] at this; cases this
  match r, s with
  | none, none => rfl
  | none, some (i, j) =>
    have := h j k.2.1 i k.1
    rw [k.2.2.1] at this; cases this
  | some (i, j), none =>
    have := k j h.2.1 i h.1
    rw [h.2.2.1] at this; cases this
  | some (i, j), some (i', j') =>
    have e1 : j = j' := by
      have h1 := key h k
      have h2 := key k h
      omega
    subst e1
    have e2 : i = i' := by
      have h1 : ¬ i < i' := fun hl => by have := k.2.2.2.1 i hl; rw [h.2.2.1] at this; cases this
      have h2 : ¬ i' < i := fun hl => by have := h.2.2.2.1 i' hl; rw [k.2.2.1] at this; cases this
      omega
    rw [e2]
/-- Two under one nonce. -/
def tk (S : List Tup) (i j : Nat) : Bool := decide ((S.getD i t0).1 = (S.getD j t0).1 ∧ (S.getD i t0).2.1 = (S.getD j t0).2.1)
/-- Two of one digest and different inputs. -/
def ck (P : List Pr) (i j : Nat) : Bool := decide ((P.getD i p0).2 = (P.getD j p0).2 ∧ (P.getD i p0).1 ≠ (P.getD j p0).1)
def firstIn (P : List Pr) (D : List Nat) : Option (List Nat) := (P.find? fun p => decide (p.2 = D)).map (·.1)
def byUse (S : List Tup) (e : Nat) (n : List Nat) : List Tup := S.filter fun t => decide (t.1 = e ∧ t.2.1 = n)
def outOf (S O : List Tup) : List Tup := O.filter fun o => decide (o ∉ S)

structure InM (w : World) (own : Owner) (v : Value) (P : List Pr) : Prop where
  ex : ∃ M, ((v = .map none ∧ M = []) ∨ ∃ b, v = .map (some b) ∧ own b = .inm ∧ Mp Tryd.prog 31 w b M) ∧
    ∀ D, wf32 D → match firstIn P D with | some x => ∃ u, (dkey D, u) ∈ M ∧ Bf w (Is own .byt) u x | none => ∀ p ∈ M, p.1 ≠ dkey D
structure Cla (w : World) (own : Owner) (v : Value) (P : List Pr) : Prop where
  ex : ∃ L, BRow w (Is own .cla) (Is own .byt) v L ∧ ((L = [] ∧ Fst2 (ck P) P.length none) ∨ ∃ i j, Fst2 (ck P) P.length (some (i, j)) ∧ L.map (·.2) = [(P.getD i p0).1, (P.getD j p0).1])
structure SeM (w : World) (own : Owner) (v : Value) (S : List Tup) : Prop where
  ex : ∃ M, ((v = .map none ∧ M = []) ∨ ∃ b, v = .map (some b) ∧ own b = .sem ∧ Mp Tryd.prog 146 w b M) ∧
    ∀ e n, wfU e n → ∃ u L, TRow w (Is own (.use e n)) (Is own .byt) u L ∧ L.map (·.1) = byUse S e n ∧ ((ukey e n, u) ∈ M ∨ ((∀ p ∈ M, p.1 ≠ ukey e n) ∧ u = .slice none 0 0 ∧ L = []))
structure Twi (w : World) (own : Owner) (v : Value) (S : List Tup) : Prop where
  ex : ∃ L, TRow w (Is own .twi) (Is own .byt) v L ∧ ((L = [] ∧ Fst2 (tk S) S.length none) ∨ ∃ i j, Fst2 (tk S) S.length (some (i, j)) ∧ L.map (·.1) = [S.getD i t0, S.getD j t0])
structure Blo (w : World) (own : Owner) (v : Value) (S : List Tup) : Prop where
  ex : ∃ L, BRow w (Is own .blo) (Is own .byt) v L ∧ L.map (·.2) = S.map (·.2.2.2)
structure Str (w : World) (own : Owner) (v : Value) (S O : List Tup) : Prop where
  ex : ∃ L, TRow w (Is own .str) (Is own .byt) v L ∧ outOf S (L.map (·.1)) = outOf S O ∧ L.length ≤ O.length
section
variable {R : Nat → Prop} {w w' : World} {own own' : Owner} {v : Value} {P : List Pr} {S O : List Tup}
theorem InM.but (h : InM w own v P) (k : But R w w') (hr : ∀ b, own b = .inm ∨ own b = .byt → ¬ R b) (he : Ext own own') : InM w' own' v P := by
  obtain ⟨M, h1, h2⟩ := h
  refine ⟨M, ?_, fun D hD => ?_⟩
  · rcases h1 with h1 | ⟨b, rfl, hb, hm⟩
    · exact .inl h1
    · exact .inr ⟨b, rfl, he.is (by decide) b hb, hm.but k (hr b (.inl hb))⟩
  · have := h2 D hD
    split at this
    · obtain ⟨u, h3, h4⟩ := this
      exact ⟨u, h3, (h4.but k (fun j hj => hr j (.inr hj))).mono (he.is (by decide))⟩
    · exact this
theorem Cla.but (h : Cla w own v P) (k : But R w w') (hr : ∀ b, own b = .cla ∨ own b = .byt → ¬ R b) (he : Ext own own') : Cla w' own' v P := by
  obtain ⟨L, h1, h2⟩ := h
  exact ⟨L, h1.but k (fun j hj => hr j (.inl hj)) (fun j hj => hr j (.inr hj)) (he.is (by decide)) (he.is (by decide)), h2⟩
theorem SeM.but (h : SeM w own v S) (k : But R w w') (hr : ∀ b, own b = .sem ∨ own b = .byt ∨ (∃ e n, own b = .use e n) → ¬ R b) (he : Ext own own') : SeM w' own' v S := by
  obtain ⟨M, h1, h2⟩ := h
  refine ⟨M, ?_, fun e n hU => ?_⟩
  · rcases h1 with h1 | ⟨b, rfl, hb, hm⟩
    · exact .inl h1
    · exact .inr ⟨b, rfl, he.is (by decide) b hb, hm.but k (hr b (.inl hb))⟩
  · obtain ⟨u, L, h3, h4⟩ := h2 e n hU
    exact ⟨u, L, h3.but k (fun j hj => hr j (.inr (.inr ⟨e, n, hj⟩))) (fun j hj => hr j (.inr (.inl hj))) (he.is (by simp)) (he.is (by decide)), h4⟩
theorem Twi.but (h : Twi w own v S) (k : But R w w') (hr : ∀ b, own b = .twi ∨ own b = .byt → ¬ R b) (he : Ext own own') : Twi w' own' v S := by
  obtain ⟨L, h1, h2⟩ := h
  exact ⟨L, h1.but k (fun j hj => hr j (.inl hj)) (fun j hj => hr j (.inr hj)) (he.is (by decide)) (he.is (by decide)), h2⟩
theorem Blo.but (h : Blo w own v S) (k : But R w w') (hr : ∀ b, own b = .blo ∨ own b = .byt → ¬ R b) (he : Ext own own') : Blo w' own' v S := by
  obtain ⟨L, h1, h2⟩ := h
  exact ⟨L, h1.but k (fun j hj => hr j (.inl hj)) (fun j hj => hr j (.inr hj)) (he.is (by decide)) (he.is (by decide)), h2⟩
theorem Str.but (h : Str w own v S O) (k : But R w w') (hr : ∀ b, own b = .str ∨ own b = .byt → ¬ R b) (he : Ext own own') : Str w' own' v S O := by
  obtain ⟨L, h1, h2⟩ := h
  exact ⟨L, h1.but k (fun j hj => hr j (.inl hj)) (fun j hj => hr j (.inr hj)) (he.is (by decide)) (he.is (by decide)), h2⟩
end
/-- The parts of a log. -/
structure LgV (w : World) (own : Owner) (gl : Nat) (P : List Pr) (S O : List Tup) (nh no : Nat) (vi vc vm vt vb vs : Value) : Prop where
  top : Top w own
  tag : own gl = .log
  blk : Blk w gl 57 [.int .i64 (nh : Int), vi, vc, vm, vt, vb, .int .i64 (no : Int), vs]
  inm : InM w own vi P
  cla : Cla w own vc P
  sem : SeM w own vm S
  twi : Twi w own vt S
  blo : Blo w own vb S
  str : Str w own vs S O
def Lg (w : World) (own : Owner) (gl : Nat) (P : List Pr) (S O : List Tup) : Prop := ∃ vi vc vm vt vb vs, LgV w own gl P S O P.length O.length vi vc vm vt vb vs
theorem LgV.but {R : Nat → Prop} {w w' : World} {own own' : Owner} {gl : Nat} {P : List Pr} {S O : List Tup} {nh no : Nat} {vi vc vm vt vb vs : Value} (h : LgV w own gl P S O nh no vi vc vm vt vb vs) (k : But R w w') (hr : ∀ b, own b ≠ .none → ¬ R b) (he : Ext own own') (ht : Top w' own') : LgV w' own' gl P S O nh no vi vc vm vt vb vs := by
  have hx : ∀ {b t}, own b = t → t ≠ .none → ¬ R b := fun h1 h2 => hr _ (by rw [h1]; exact h2)
  refine ⟨ht, he.is (by decide) gl h.tag, h.blk.but k (hx h.tag (by decide)), h.inm.but k ?_ he, h.cla.but k ?_ he, h.sem.but k ?_ he, h.twi.but k ?_ he, h.blo.but k ?_ he, h.str.but k ?_ he⟩
  all_goals intro b hb
  · rcases hb with hb | hb <;> exact hx hb (by decide)
  · rcases hb with hb | hb <;> exact hx hb (by decide)
  · rcases hb with hb | hb | ⟨e, n, hb⟩
    · exact hx hb (by decide)
    · exact hx hb (by decide)
    · exact hx hb (by simp)
  · rcases hb with hb | hb <;> exact hx hb (by decide)
  · rcases hb with hb | hb <;> exact hx hb (by decide)
  · rcases hb with hb | hb <;> exact hx hb (by decide)
theorem Lg.but {R : Nat → Prop} {w w' : World} {own : Owner} {gl : Nat} {P : List Pr} {S O : List Tup} (h : Lg w own gl P S O) (k : But R w w') (hr : ∀ b, own b ≠ .none → ¬ R b) : Lg w' own gl P S O := by
  obtain ⟨vi, vc, vm, vt, vb, vs, h⟩ := h
  exact ⟨vi, vc, vm, vt, vb, vs, h.but k hr (Ext.refl _) (h.top.grow k.size)⟩
/-- What an operation on the log leaves. -/
structure LgTo (w : World) (own : Owner) (gl : Nat) (P : List Pr) (S O : List Tup) (w' : World) : Prop where
  but : But (fun b => own b ≠ .none) w w'
  ex : ∃ own', Ext own own' ∧ Fresh w own own' ∧ Lg w' own' gl P S O
end Go.Proofs.YtmlladpmecclbaaDoor
/- ghost: useOf, copied; keys of maps; builds. -/
namespace Go.Proofs.YtmlladpmecclbaaDoor
open Go.RowKit

theorem lo_prog : laidOutB Tryd.prog = true := by kernel_rfl
theorem ukt : Tryd.prog.underlying 31 = some (.array 32 5) := Tryd.underlying31
theorem keyD : WideMaps.KeyLaw Tryd.prog 31 := deep_law_laid lo_prog (m := 4) (by decide) (of_decide_eq_true (by kernel_rfl)) (by kernel_rfl) (by kernel_rfl)
theorem keyU : WideMaps.KeyLaw Tryd.prog 146 := deep_law_laid lo_prog (m := 4) (by decide) (of_decide_eq_true (by kernel_rfl)) (by kernel_rfl) (by kernel_rfl)
theorem key_d {D : List Nat} (h : wf32 D) : ∃ l, keyOf Tryd.prog 31 (dkey D) = some l := key_u8s ukt (by kernel_rfl) (by kernel_rfl) (of_decide_eq_true (by kernel_rfl)) D h.1 h.2
theorem ufields : Tryd.prog.underlying 146 = some (.struct #[⟨ "epoch", 90, 0, false, "", "thimble/ghost", 0⟩, ⟨ "nonce", 144, 1, false, "", "thimble/ghost", 4⟩]) := by kernel_rfl
theorem key_use {e : Nat} {n : List Nat} (h : wfU e n) : ∃ l, keyOf Tryd.prog 146 (ukey e n) = some l := by
  obtain ⟨m, hm⟩ : ∃ m, Tryd.prog.types.size = m + 2 := ⟨Tryd.prog.types.size - 2, by have : 2 ≤ Tryd.prog.types.size := of_decide_eq_true (by kernel_rfl); omega⟩
  obtain ⟨ls, hl⟩ := lits_u8s (t := 144) (d := m) Tryd.underlying144 (by kernel_rfl) n h.2.1 h.2.2
  have c1 : Tryd.prog.cellsOf 90 = 1 := by kernel_rfl
  have c12 : Tryd.prog.cellsOf 144 = 12 := by kernel_rfl
  have c13 : Tryd.prog.cellsOf 146 = 13 := by kernel_rfl
  have hlen : (ucells e n).length = 13 := by simp [ucells, u8s, h.2.1]
  have hf : Value.formed Tryd.prog 146 (ukey e n) = true := by simp [Value.formed, ukey, c13, hlen]
  have hk : Tryd.prog.keyType 146 = true := by kernel_rfl
  have hwf : (Lit.int .u32 (e : Int)).wf = true := by
    have e1 : IntKind.u32.min = 0 := rfl
    have e2 : IntKind.u32.max = 4294967295 := rfl
    have := h.1
    simp only [Lit.wf, e1, e2, Bool.and_eq_true, decide_eq_true_eq]
    omega
  have e1 : ((ucells e n).drop 0).take 1 = [.int .u32 (e : Int)] := rfl
  have e2 : ((ucells e n).drop 1).take 12 = u8s n := by
    show (u8s n).take 12 = u8s n
    exact List.take_of_length_le (by simp [u8s, h.2.1])
  have hi : Tryd.prog.keyLits (m + 2) 90 [.int .u32 (e : Int)] = some [.int .u32 (e : Int)] := by
    unfold Program.keyLits
    simp only [Tryd.underlying90, hwf]
    simp
  have hs : Tryd.prog.keyLits (m + 3) 146 (ucells e n) = some ([.int .u32 (e : Int)] ++ ls) := by
    unfold Program.keyLits
    simp only [ufields, c13, hlen, List.mapM_cons, List.mapM_nil, c1, c12, e1, e2, hi, hl]
    simp
  refine ⟨.string (keyBytes ([.int .u32 (e : Int)] ++ ls)), ?_⟩
  simp only [keyOf, ufields, hk, hf, Bool.and_self, if_true, hm]
  rw [show m + 2 + 1 = m + 3 by rfl]
  show Option.map _ (Tryd.prog.keyLits (m + 3) 146 (ucells e n).toArray.toList) = _
  rw [List.toList_toArray, hs]; rfl
theorem list12 {α : Type} {n : List α} (h : n.length = 12) : ∃ a b c d e f g i j k l m, n = [a, b, c, d, e, f, g, i, j, k, l, m] := by
  match n, h with
  | [a, b, c, d, e, f, g, i, j, k, l, m], _ => exact ⟨a, b, c, d, e, f, g, i, j, k, l, m, rfl⟩
theorem build_use {e : Nat} {n : List Nat} (h : n.length = 12) (w : World) : (Instr.build 146 #[(0, .int .u32 (e : Int)), (1, .agg (u8s n).toArray)]).run Tryd.prog w = .ok (ukey e n) w := by
  refine run_build w _ _ _ ?_
  obtain ⟨a, b, c, d, e, f, g, i, j, k, l, m, rfl⟩ := list12 h
  kernel_rfl
theorem iU : (Tryd.prog.info? 146).map (·.size) = some 13 := by kernel_rfl
theorem iT : (Tryd.prog.info? 148).map (·.size) = some 15 := by kernel_rfl
theorem zU (w : World) : (zeroValue 146).run Tryd.prog w = .ok (.agg (.int .u32 0 :: List.replicate 12 (.int .u8 0)).toArray) w := by kernel_rfl
def zeroT : List Value := .int .u32 0 :: (List.replicate 12 (.int .u8 0) ++ [.slice none 0 0, .slice none 0 0])
theorem zT (w : World) : (zeroValue 148).run Tryd.prog w = .ok (.agg zeroT.toArray) w := by kernel_rfl
theorem ucells_len {e : Nat} {n : List Nat} (h : n.length = 12) : (ucells e n).length = 13 := by simp [ucells, u8s, h]
theorem ucells_one (e : Nat) (n : List Nat) : ∀ u ∈ ucells e n, u.oneCell' = true := by
  intro u hu
  rcases List.mem_cons.1 hu with rfl | hu
  · rfl
  · exact u8s_one n u hu
theorem tcells_set13 {T : Tup} (h : T.2.1.length = 12) (va vs u : Value) : (tcells T va vs).set 13 u = tcells T u vs := by
  have hl : (u8s T.2.1).length = 12 := by simp [u8s, h]
  show .int .u32 (T.1 : Int) :: (u8s T.2.1 ++ [va, vs]).set 12 u = _
  rw [List.set_append_right _ _ (by omega), hl]; rfl
theorem tcells_set14 {T : Tup} (h : T.2.1.length = 12) (va vs u : Value) : (tcells T va vs).set 14 u = tcells T va u := by
  have hl : (u8s T.2.1).length = 12 := by simp [u8s, h]
  show .int .u32 (T.1 : Int) :: (u8s T.2.1 ++ [va, vs]).set 13 u = _
  rw [List.set_append_right _ _ (by omega), hl]; rfl
theorem tcells_one {T : Tup} {va vs : Value} (h1 : va.oneCell' = true) (h2 : vs.oneCell' = true) : ∀ u ∈ tcells T va vs, u.oneCell' = true := by
  intro u hu
  rcases List.mem_cons.1 hu with rfl | hu
  · rfl
  · rcases List.mem_append.1 hu with hu | hu
    · exact u8s_one _ u hu
    · rcases List.mem_cons.1 hu with rfl | hu
      · exact h1
      · rcases List.mem_cons.1 hu with rfl | hu
        · exact h2
        · cases hu
theorem Tv.one {w : World} {F : Nat → Prop} {T : Tup} {va vs : Value} (h : Tv w F T va vs) : ∀ u ∈ tcells T va vs, u.oneCell' = true := tcells_one h.aad.1.one h.sea.1.one
theorem Tfields : ∃ fs, Tryd.prog.underlying 148 = some (.struct fs) := ⟨_, Tryd.underlying148⟩
/-- A tuple with memory of its own. -/
structure TNew (w : World) (base : Nat) (T : Tup) (va vs : Value) : Prop where
  ep : T.1 < 4294967296
  nl : T.2.1.length = 12
  nt : ∀ z ∈ T.2.1, z < 256
  aad : Ow w base va T.2.2.1
  sea : Ow w base vs T.2.2.2
  dif : ∀ k, va.ownBlock = some k → vs.ownBlock = some k → False
end Go.Proofs.YtmlladpmecclbaaDoor
/- ghost: New, Count, Clash. -/
namespace Go.Proofs.YtmlladpmecclbaaDoor
open Go.RowKit

theorem BRow.len {w : World} {Fr G : Nat → Prop} {v : Value} {L : List BE} (h : BRow w Fr G v L) : ∃ ao cap, v = .slice ao L.length cap := by
  obtain ⟨ao, cap, e, _⟩ := h.row.shape
  exact ⟨ao, cap, e⟩
theorem TRow.len {w : World} {Fr G : Nat → Prop} {v : Value} {L : List TE} (h : TRow w Fr G v L) : ∃ ao cap, v = .slice ao L.length cap := by
  obtain ⟨ao, cap, e, _⟩ := h.row.shape
  exact ⟨ao, cap, e⟩
set_option maxRecDepth 100000 in
set_option maxHeartbeats 4000000 in
theorem count_any {w : World} {own : Owner} {gl : Nat} {P : List Pr} {S O : List Tup} (h : Lg w own gl P S O) :
    Calls Tryd.prog 17 #[.pointer (some ⟨gl, 0, none⟩)] w fun e w' => e = .returned (.tuple #[.int .i64 (P.length : Int), .int .i64 (S.length : Int), .int .i64 (O.length : Int)]) ∧ Grow w w' := by
  obtain ⟨vi, vc, vm, vt, vb, vs, h⟩ := h
  obtain ⟨L, hL, hLS⟩ := h.blo.ex
  obtain ⟨ao, cap, rfl⟩ := hL.len
  have hl : L.length = S.length := by have := congrArg List.length hLS; simpa using this
  rw [hl] at h
  have HB := Hid.mk' h.blk
  clear h hL hLS hl L
  generalize P.length = np at *
  generalize S.length = ns at *
  generalize O.length = no at *
  go_enter Tryd.func17, Tryd.ntmps17
  go_upto_region 3 with fail
  refine region_chain [] [0, 1, 2, 3, 4, 5, 6, 7, 8, 9, 10, 11, 12, 13, 14, 15] (Grow w) (Grow w) (by kernel_rfl) (by kernel_rfl) (fun _ _ h k => h.trans k) (fun _ h => h) ((But.refl _ w).drew) ?_
  intro ι hne W hW
  have c0 : ∀ x, (W x).cell? ⟨gl, 0, none⟩ = some (.int .i64 (np : Int)) := fun x => (HB.out.but (hW x) (fun h => h)).cell 0
  have c5 : ∀ x, (W x).cell? ⟨gl, 5, none⟩ = some (.slice ao ns cap) := fun x => (HB.out.but (hW x) (fun h => h)).cell 5
  have c6 : ∀ x, (W x).cell? ⟨gl, 6, none⟩ = some (.int .i64 (no : Int)) := fun x => (HB.out.but (hW x) (fun h => h)).cell 6
  iterate 16 (refine still_step rfl (fun K hK => ?_); go_simp; refine hK _ ?_; clear hK K)
  refine still_nil ?_
  intro w' hw'
  go_wp2
  exact bodyPost_ret (results_tmp3 rfl _ _ _) rfl ⟨rfl, hw'⟩

theorem count_nil (w : World) : Calls Tryd.prog 17 #[.pointer none] w fun e w' => e = .returned (.tuple #[.int .i64 0, .int .i64 0, .int .i64 0]) ∧ Grow w w' := by
  go_enter Tryd.func17, Tryd.ntmps17
  go_wp2
  exact bodyPost_ret (results_tmp3 rfl _ _ _) rfl ⟨rfl, But.refl _ _⟩
def noClash : Value := .tuple #[.slice none 0 0, .slice none 0 0, .bool false]
theorem clash_nil (w : World) : Calls Tryd.prog 13 #[.pointer none] w fun e w' => e = .returned noClash ∧ Grow w w' := by
  go_enter Tryd.func13, Tryd.ntmps13
  go_wp2
  exact bodyPost_ret (results_tmp3 rfl _ _ _) rfl ⟨rfl, But.refl _ _⟩
theorem two_of {α β : Type} {f : α → β} {L : List α} {x y : β} (h : L.map f = [x, y]) : ∃ a b, L = [a, b] ∧ f a = x ∧ f b = y := by
  match L, h with
  | [a, b], h =>
    simp only [List.map_cons, List.map_nil, List.cons.injEq, and_true] at h
    exact ⟨a, b, rfl, h.1, h.2⟩
set_option maxRecDepth 100000 in
set_option maxHeartbeats 4000000 in
theorem clash_any {w : World} {own : Owner} {gl : Nat} {P : List Pr} {S O : List Tup} (h : Lg w own gl P S O) (hb : ∀ p ∈ P, p.1.length ≤ 140737488355328) :
    Calls Tryd.prog 13 #[.pointer (some ⟨gl, 0, none⟩)] w fun e w' => Grow w w' ∧ ((e = .returned noClash ∧ Fst2 (ck P) P.length none) ∨
      ∃ i j va vb, e = .returned (.tuple #[va, vb, .bool true]) ∧ Fst2 (ck P) P.length (some (i, j)) ∧ Ow w' w.heap.size va (P.getD i p0).1 ∧ Ow w' w.heap.size vb (P.getD j p0).1) := by
  obtain ⟨vi, vc, vm, vt, vb, vs, h⟩ := h
  obtain ⟨L, hL, hcl⟩ := h.cla.ex
  have HB := Hid.mk' h.blk
  rcases hcl with ⟨rfl, hF⟩ | ⟨i, j, hF, hLM⟩
  · obtain ⟨ao, cap, rfl⟩ := hL.len
    have c2 : w.cell? ⟨gl, 2, none⟩ = some (.slice ao 0 cap) := h.blk.cell 2
    have HF := Hid.mk' hF
    clear h hL hF HB
    go_enter Tryd.func13, Tryd.ntmps13
    go_wp2
    exact bodyPost_ret (results_tmp3 rfl _ _ _) rfl ⟨But.refl _ _, .inl ⟨rfl, HF.out⟩⟩
  · obtain ⟨⟨ua, xa⟩, ⟨ub, xb⟩, rfl, rfl, rfl⟩ := two_of hLM
    obtain ⟨ao, cap, rfl, hrow⟩ := hL.row.shape
    obtain ⟨g, rfl, hfg, hgl, hcell⟩ := hrow (by simp)
    have hgb : ∀ w', Grow w w' → w'.cell? ⟨g, 0, none⟩ = some ua ∧ w'.cell? ⟨g, 1, none⟩ = some ub := fun w' hw => by
      have e := hw.block g hgl (fun h => h)
      exact ⟨(World.cell?_of_block e).trans (hcell 0 ua rfl), (World.cell?_of_block e).trans (hcell 1 ub rfl)⟩
    have hij := hF
    have hpa : (P.getD i p0) ∈ P := by simp [List.getD, show i < P.length by have := hij.1; have := hij.2.1; omega]
    have hpb : (P.getD j p0) ∈ P := by simp [List.getD, show j < P.length from hij.2.1]
    obtain ⟨xs, hxs⟩ : ∃ xs, xs = (P.getD i p0).1 := ⟨_, rfl⟩
    obtain ⟨ys, hys⟩ : ∃ ys, ys = (P.getD j p0).1 := ⟨_, rfl⟩
    have HCA : Hid (∀ w', Grow w w' → Calls Tryd.prog 31 #[ua] w' fun e w'' => ∃ v', e = .returned v' ∧ Ow w'' w'.heap.size v' xs ∧ Below w'.heap.size w' w'') := fun w' hw => by
      rw [hxs]; exact clone_any ((hL.el _ List.mem_cons_self).1.but hw (fun _ _ _ h => h)) (hb _ hpa)
    have HCB : Hid (∀ w', Grow w w' → Calls Tryd.prog 31 #[ub] w' fun e w'' => ∃ v', e = .returned v' ∧ Ow w'' w'.heap.size v' ys ∧ Below w'.heap.size w' w'') := fun w' hw => by
      rw [hys]; exact clone_any ((hL.el _ (List.mem_cons_of_mem _ List.mem_cons_self)).1.but hw (fun _ _ _ h => h)) (hb _ hpb)
    have HGB := Hid.mk' hgb
    have HF := Hid.mk' hF
    have HXS := Hid.mk' hxs
    have HYS := Hid.mk' hys
    have c2 : w.cell? ⟨gl, 2, none⟩ = some (.slice (some ⟨g, 0, none⟩) 2 cap) := h.blk.cell 2
    clear h hL hF hb hgb hrow hcell hpa hpb hij hLM hxs hys hfg hgl
    go_enter Tryd.func13, Tryd.ntmps13
    go_upto_region 3 with fail
    refine region_chain [([0, 1, 2, 3, 4, 5, 7, 8, 9, 10, 11, 12], 6), ([], 13)] [14, 15, 16] (Grow w) (Grow w) (by kernel_rfl) (by kernel_rfl) (fun _ _ h k => h.trans k) (fun _ h => h) ((But.refl _ w).drew) ?_
    intro ι hne W hW
    have c2 : ∀ x, (W x).cell? ⟨gl, 2, none⟩ = some (.slice (some ⟨g, 0, none⟩) 2 cap) := fun x => (HB.out.but (hW x) (fun h => h)).cell 2
    have d0 : ∀ x, (W x).cell? ⟨g, 0, none⟩ = some ua := fun x => (HGB.out _ (hW x)).1
    have d1 : ∀ x, (W x).cell? ⟨g, 1, none⟩ = some ub := fun x => (HGB.out _ (hW x)).2
    iterate 12 (refine still_step rfl (fun K hK => ?_); go_simp; refine hK _ ?_; clear hK K)
    refine still_nil ?_
    clear c2 d0 d1 hW hne
    refine turn_call rfl rfl (fun v w' => Grow w w' ∧ Ow w' w.heap.size v xs) (fun _ => Grow w) (fun v w1 w2 h k => ⟨h.1.trans k, h.2.but k (fun _ _ _ h => h)⟩) (fun v w1 h => h.1) (.inr (fun _ _ h => h)) 31 #[ua] (fun _ => by kernel_rfl) ?_ ?_
    · intro w1 hw1
      refine Calls.mono (HCA.out w1 hw1) ?_
      rintro e w2 ⟨v', rfl, ho, hbl⟩
      exact ⟨v', rfl, hw1.trans (But.of hbl), ho.mono hw1.size⟩
    · intro va hex X hX
      go_simp
      refine hX _ ?_
      clear hX X
      intro ι hne W hW
      refine still_nil ?_
      clear hW hne
      refine turn_call rfl rfl (fun v w' => Grow w w' ∧ Ow w' w.heap.size va xs ∧ Ow w' w.heap.size v ys) (fun _ => Grow w) (fun v w1 w2 h k => ⟨h.1.trans k, h.2.1.but k (fun _ _ _ h => h), h.2.2.but k (fun _ _ _ h => h)⟩) (fun v w1 h => h.1) (.inr (fun _ _ h => h)) 31 #[ub] (fun _ => by kernel_rfl) ?_ ?_
      · intro w1 hw1
        refine Calls.mono (HCB.out w1 hw1.1) ?_
        rintro e w2 ⟨v', rfl, ho, hbl⟩
        exact ⟨v', rfl, hw1.1.trans (But.of hbl), hw1.2.but (But.of (R := fun _ => False) hbl) (fun _ _ _ h => h), ho.mono hw1.1.size⟩
      · intro vb' hex X hX
        go_simp
        refine hX _ ?_
        clear hX X
        intro ι hne W hW
        iterate 3 (refine still_step rfl (fun K hK => ?_); go_simp; refine hK _ ?_; clear hK K)
        refine still_nil ?_
        intro w' hw'
        go_wp2
        refine bodyPost_ret (results_tmp3 rfl _ _ _) rfl ⟨hw'.1, .inr ⟨i, j, va, vb', rfl, HF.out, ?_, ?_⟩⟩
        · rw [← HXS.out]; exact hw'.2.1
        · rw [← HYS.out]; exact hw'.2.2
end Go.Proofs.YtmlladpmecclbaaDoor
/- Single operations, by what they run to: look-ups, updates, appends, rows, stores. -/
namespace Go.Proofs.YtmlladpmecclbaaDoor
open Go.RowKit

section
variable {P : Program} {w w' : World} {o : Oper} {ρ : Operand → Value}
theorem run_load_tup {x : Operand} {ad : Addr} {cs : List Value} (hc : ∀ j u, cs[j]? = some u → w.cell? (ad.add j) = some u) (hl : cs.length = 15)
    (ho : o.op = .load 148 x) (hx : ρ x = .pointer (some ad)) : (execOp ρ o).run Tryd.prog w = .ok (.value (.agg cs.toArray)) w := by
  have h := run_loadVar_cells w ad 148 cs _ hc Tryd.underlying148 rfl (by rw [iT, hl])
  unfold execOp
  simp only [ho, hx, Instr.loadAt, Instr.sureAddr, Sem.run_bind, Sem.run_pure, Result.andThen_ok, h]
theorem run_index15 {x y : Operand} {g n c k : Nat} (ho : o.op = .indexAddr 55 x y) (hx : ρ x = .slice (some ⟨g, 0, none⟩) n c) (hy : ρ y = .int .i64 (k : Int)) (hk : k < n) :
    (execOp ρ o).run Tryd.prog w = .ok (.value (.pointer (some ⟨g, k * 15, none⟩))) w := by
  have hk' : (k : Int) < (n : Int) := by omega
  unfold execOp
  simp only [ho, hx, hy]
  go_simp
theorem run_index0 {x y : Operand} {g n c : Nat} (ho : o.op = .indexAddr 55 x y) (hx : ρ x = .slice (some ⟨g, 0, none⟩) n c) (hy : ρ y = .int .i64 0) (hk : 0 < n) :
    (execOp ρ o).run Tryd.prog w = .ok (.value (.pointer (some ⟨g, 0, none⟩))) w := by
  have := run_index15 (w := w) (k := 0) ho hx hy hk
  rwa [Nat.zero_mul] at this
end
theorem infT : (Tryd.prog.info? 148).map (fun i => (i.zero, i.size, i.bytes)) = some (some (.agg zeroT.toArray), 15, 64) := by kernel_rfl
def zeroP : List Value := .slice none 0 0 :: List.replicate 32 (.int .u8 0)
section
variable {w : World} {o : Oper} {ρ : Operand → Value} {K' : Value → World → Prop}
end
/-- Is a map none? -/
theorem map_eql {t k e : TypeId} (ht : Tryd.prog.underlying t = some (.map k e)) (m : Option Nat) (w : World) : (binOp .eql t (.map m) (.map none)).run Tryd.prog w = .ok (.bool m.isNone) w := by
  have h : (Op.equal t (.map m) (.map none)).run Tryd.prog w = .ok m.isNone w := by
    unfold Op.equal Op.maxDepth Op.equalIn
    cases m with
    | none => simp [run_underlying ht]
    | some b => simp [run_underlying ht]
  simp [binOp, h]
end Go.Proofs.YtmlladpmecclbaaDoor
/- ghost: keepInput, Note. -/
namespace Go.Proofs.YtmlladpmecclbaaDoor
open Go.RowKit

theorem wrap_i64 (n : Int) (h1 : -9223372036854775808 ≤ n) (h2 : n < 9223372036854775808) : IntKind.i64.wrap n = n := by
  simp [IntKind.wrap, IntKind.bits, IntKind.signed]; omega
theorem firstIn_add (P : List Pr) (x D E : List Nat) : firstIn (P ++ [(x, D)]) E = match firstIn P E with | some y => some y | none => if D = E then some x else none := by
  unfold firstIn
  rw [List.find?_append]
  cases h : P.find? (fun p => decide (p.2 = E)) with
  | some y => simp
  | none =>
    by_cases hE : D = E
    · simp [hE]
    · simp [hE]
theorem i32 : (Tryd.prog.info? 31).map (·.size) = some 32 := by kernel_rfl
theorem zS (w : World) : (zeroValue 22).run Tryd.prog w = .ok (.slice none 0 0) w := by kernel_rfl
abbrev lgc (nh no : Nat) (vi vc vm vt vb vs : Value) : List Value := [.int .i64 (nh : Int), vi, vc, vm, vt, vb, .int .i64 (no : Int), vs]
/-- The map of inputs has one more. -/
theorem InM.put {w w' : World} {own own' : Owner} {b : Nat} {M M' : List (Value × Value)} {P : List Pr} {xs D : List Nat} {u : Value}
    (hM : ∀ E, wf32 E → match firstIn P E with | some x => ∃ u, (dkey E, u) ∈ M ∧ Bf w (Is own .byt) u x | none => ∀ p ∈ M, p.1 ≠ dkey E) (hn : firstIn P D = none) (hmp : Mp Tryd.prog 31 w' b M') (hin : (dkey D, u) ∈ M') (hot : ∀ k v, k ≠ dkey D → ((k, v) ∈ M' ↔ (k, v) ∈ M))
    {R : Nat → Prop} (hk : But R w w') (hr : ∀ b, own b = .byt → ¬ R b) (he : Ext own own') (hb : own' b = .inm) (hu : Bf w' (Is own' .byt) u xs) : InM w' own' (.map (some b)) (P ++ [(xs, D)]) := by
  refine ⟨M', .inr ⟨b, rfl, hb, hmp⟩, fun E hE => ?_⟩
  rw [firstIn_add]
  have h := hM E hE
  cases hf : firstIn P E with
  | some x =>
    rw [hf] at h
    obtain ⟨v, h1, h2⟩ := h
    have hne : dkey E ≠ dkey D := fun e => by
      have := dkey_inj e
      rw [this, hn] at hf; cases hf
    exact ⟨v, (hot _ _ hne).2 h1, (h2.but hk hr).mono (he.is (by decide))⟩
  | none =>
    rw [hf] at h
    by_cases hDE : D = E
    · subst hDE
      simp only [if_true]
      exact ⟨u, hin, hu⟩
    · simp only [if_neg hDE]
      intro p hp e
      have hne : p.1 ≠ dkey D := fun e2 => hDE (dkey_inj (e2.symm.trans e))
      exact h p ((hot p.1 p.2 hne).1 hp) e
/-- What keepInput leaves. -/
structure KeepTo (w : World) (own : Owner) (gl nh no : Nat) (vc vm vt vb vs : Value) (P : List Pr) (w' : World) : Prop where
  but : But (fun b => b = gl ∨ own b = .inm) w w'
  ex : ∃ own' vi', Ext own own' ∧ Fresh w own own' ∧ Top w' own' ∧ Blk w' gl 57 (lgc nh no vi' vc vm vt vb vs) ∧ InM w' own' vi' P
set_option maxRecDepth 100000 in
set_option maxHeartbeats 8000000 in
theorem keep_any {w : World} {own : Owner} {gl nh no : Nat} {vi vc vm vt vb vs v : Value} {P : List Pr} {xs D : List Nat} (ht : Top w own) (hg : own gl = .log) (hb : Blk w gl 57 (lgc nh no vi vc vm vt vb vs)) (hi : InM w own vi P)
    (hv : Bf w (Is own .none) v xs) (hl : xs.length ≤ 140737488355328) (hD : wf32 D) (hn : firstIn P D = none) :
    Calls Tryd.prog 66 #[.pointer (some ⟨gl, 0, none⟩), v, dkey D] w fun e w' => e = .returned (.tuple #[]) ∧ KeepTo w own gl nh no vc vm vt vb vs (P ++ [(xs, D)]) w' := by
  obtain ⟨M, hM, hMP⟩ := hi.ex
  have hgl := ht.lt (b := gl) (by rw [hg]; decide)
  obtain ⟨g0, hg0⟩ : ∃ g, g = w.heap.size := ⟨_, rfl⟩
  obtain ⟨N, hN⟩ : ∃ N, N = (u8s D).toArray := ⟨_, rfl⟩
  have hdk : dkey D = .agg N := by rw [hN]; rfl
  obtain ⟨W0, hW0⟩ : ∃ W0, W0 = w.alloc (.cells N 31) := ⟨_, rfl⟩
  have hT0 : Grow w W0 := by rw [hW0]; exact (But.refl _ w).alloc _
  have hs0 : W0.heap.size = g0 + 1 := by rw [hW0, hg0]; simp
  have hB0 : Blk W0 g0 31 (u8s D) := by rw [hW0, hN]; exact Blk.new hg0.symm
  have hL0 := hb.but hT0 (fun h => h)
  have c1 : W0.cell? ⟨gl, 1, none⟩ = some vi := hL0.cell 1
  have f1 := hL0.free 1
  rw [hdk]
  have HB0 := Hid.mk' hB0
  have HL0 := Hid.mk' hL0
  have HT0 := Hid.mk' hT0
  have HT := Hid.mk' ht
  have HG := Hid.mk' hg
  have HG0 := Hid.mk' hg0
  have HGL := Hid.mk' hgl
  have HN := Hid.mk' hN
  have HDK := Hid.mk' hdk
  have HD := Hid.mk' hD
  have HFN := Hid.mk' hn
  have HMP := Hid.mk' hMP
  have HV := Hid.mk' hv
  have HLX := Hid.mk' hl
  have HS0 := Hid.mk' hs0
  have HW0 := Hid.mk' hW0
  rw [hW0] at c1 f1
  clear hi hdk hN hB0 hL0 hT0 hb ht hg hg0 hgl hD hn hMP hv hl hs0 hW0
  have hme := map_eql (t := 53) Tryd.underlying53
  rcases hM with ⟨rfl, hM0⟩ | ⟨b, rfl, hbi, hmp⟩
  case' inl =>
    have HM0 := Hid.mk' hM0
    clear hM0
    have hmm := @run_makeMap Tryd.prog
    have c1' : ((w.alloc (.cells N 31)).alloc (.map #[] 0)).cell? ⟨gl, 1, none⟩ = some (.map none) := by
      rw [← HW0.out]; exact (HL0.out.but (R := fun _ => False) ((But.refl _ W0).alloc _) (fun h => h)).cell 1
    have f1' : ((w.alloc (.cells N 31)).alloc (.map #[] 0)).frozen? ⟨gl, 1, none⟩ = false := by
      rw [← HW0.out]; exact (HL0.out.but (R := fun _ => False) ((But.refl _ W0).alloc _) (fun h => h)).free 1
    go_enter Tryd.func66, Tryd.ntmps66
    go_upto_region 3 with fail
    obtain ⟨W, hW⟩ : ∃ W, W = (W0.alloc (.map #[] 0)).setCell ⟨gl, 1, none⟩ (.map (some (w.heap.size + 1))) := ⟨_, rfl⟩
    rw [← HW0.out, ← hW]
    have hs0 := HS0.out
    have hg0 := HG0.out
    have hgl := HGL.out
    rw [← hg0] at hW ⊢
    have hWb : But (· = gl) W0 W := by rw [hW]; exact ((But.refl _ W0).alloc _).trans (But.set1 _ _ _ _)
    have hMp : Mp Tryd.prog 31 W (g0 + 1) M := by rw [HM0.out, hW]; exact (Mp.new (g0 + 1) (by omega)).but (But.set1 _ _ _ _) (show ¬ (g0 + 1 = gl) by omega)
    have hLW : Blk W gl 57 (lgc nh no (.map (some (g0 + 1))) vc vm vt vb vs) := by rw [hW]; exact (HL0.out.but (R := fun _ => False) ((But.refl _ W0).alloc _) (fun h => h)).set 1 _
    have hsz : W.heap.size = g0 + 2 := by rw [hW]; simp; omega
    have HOW : Hid (∃ own1, Ext own own1 ∧ Fresh w own own1 ∧ Top W own1 ∧ own1 (g0 + 1) = .inm) :=
      ⟨tagAt own (g0 + 1) .inm, Ext.tagAt (.inl (HT.out _ (by omega))), (Fresh.refl w own).tagAt (.inl (by omega)), (HT.out.grow (by omega)).tagAt (by omega), tagAt_own⟩
    generalize g0 + 1 = b at *
    clear hW hs0 hg0 hgl hsz c1' f1' hmm
  case' inr =>
    go_enter Tryd.func66, Tryd.ntmps66
    go_upto_region 3 with fail
    obtain ⟨W, hW⟩ : ∃ W, W = W0 := ⟨_, rfl⟩
    rw [← HW0.out, ← hW]
    have hs0 := HS0.out
    have hg0 := HG0.out
    rw [← hg0]
    have hWb : But (· = gl) W0 W := by rw [hW]; exact But.refl _ _
    have hMp : Mp Tryd.prog 31 W b M := by rw [hW]; exact hmp.but HT0.out (fun h => h)
    have hLW : Blk W gl 57 (lgc nh no (.map (some b)) vc vm vt vb vs) := by rw [hW]; exact HL0.out
    have HOW : Hid (∃ own1, Ext own own1 ∧ Fresh w own own1 ∧ Top W own1 ∧ own1 b = .inm) :=
      ⟨own, Ext.refl _, Fresh.refl _ _, HT.out.grow (by rw [hW]; exact HT0.out.size), hbi⟩
    clear hW hs0 hg0 hmp
  all_goals
    have HWB := Hid.mk' hWb
    have HMQ := Hid.mk' hMp
    have HLW := Hid.mk' hLW
    have HBW : Hid (Blk W g0 31 (u8s D)) := HB0.out.but hWb (show ¬ (g0 = gl) by have := HGL.out; have := HG0.out; omega)
    have HBT : Hid (But (· = gl) w W) := (HT0.out.mono (fun _ _ h => h.elim)).trans hWb
    have HVW : Hid (Bs W v xs) := (HV.out.but HBT.out (fun j hj e => by have h1 := HG.out; rw [← e, show own j = .none from hj] at h1; cases h1)).1
    have HC := Hid.mk' (fun w' (hw : Grow W w') => clone_any (HVW.out.but hw (fun _ _ _ h => h)) HLX.out)
    clear hWb hMp hLW c1 f1 hme
    refine region_chain [([0, 1, 2, 3, 4, 5], 6), ([], 7)] [] (Grow W) (Grow W) (by kernel_rfl) (by kernel_rfl) (fun _ _ h k => h.trans k) (fun _ h => h) ((But.refl _ W).drew) ?_
    intro ι hne X hX
    have c1 : ∀ x, (X x).cell? ⟨gl, 1, none⟩ = some (.map (some b)) := fun x => (HLW.out.but (hX x) (fun h => h)).cell 1
    iterate 4 (refine still_step rfl (fun K hK => ?_); go_simp; refine hK _ ?_; clear hK K)
    refine still_val rfl (.agg N) rfl (fun x => by rw [HN.out]; exact run_load_arr ukt i32 (HBW.out.but (hX x) (fun h => h)).cells0 HD.out.1 rfl rfl) ?_
    intro K hK; go_simp; refine hK _ ?_; clear hK K
    refine still_step rfl (fun K hK => ?_); go_simp; refine hK _ ?_; clear hK K
    refine still_nil ?_
    clear c1 hX hne
    refine turn_call rfl rfl (fun u w' => Grow W w' ∧ Ow w' W.heap.size u xs) (fun _ => Grow W) (fun u w1 w2 h k => ⟨h.1.trans k, h.2.but k (fun _ _ _ h => h)⟩) (fun u w1 h => h.1) (.inr (fun _ _ h => h)) 31 #[v] (fun _ => by kernel_rfl) ?_ ?_
    · intro w1 hw1
      refine Calls.mono (HC.out w1 hw1) ?_
      rintro e w2 ⟨v', rfl, ho, hbl⟩
      exact ⟨v', rfl, hw1.trans (But.of hbl), ho.mono hw1.size⟩
    · intro u hex Y hY
      go_simp
      refine hY _ ?_
      clear hY Y hex
      intro ι hne X hX
      refine still_nil ?_
      clear hX hne
      refine turn_run rfl rfl (fun _ w' => ∃ M', Mp Tryd.prog 31 w' b M' ∧ (dkey D, u) ∈ M' ∧ (∀ k r, k ≠ dkey D → ((k, r) ∈ M' ↔ (k, r) ∈ M)) ∧ But (· = b) W w' ∧ Ow w' W.heap.size u xs) (fun _ _ => True) ?_ (fun _ _ _ => trivial) (.inl (by kernel_rfl)) ?_ ?_
      · rintro _ w1 w2 ⟨M', h1, h2, h3, h4, h5⟩ k
        exact ⟨M', h1.but k (fun h => h), h2, h3, h4.trans (k.mono (fun _ _ h => h.elim)), h5.but k (fun _ _ _ h => h)⟩
      · rintro w1 ⟨h1, h2⟩
        obtain ⟨l, hl⟩ := key_d HD.out
        obtain ⟨w2, M', hr, hm2, hb2, hin, hot⟩ := (HMQ.out.but h1 (fun h => h)).put keyD (t := 53) Tryd.underlying53 (v := u) hl
        refine ⟨undef, w2, .inr ⟨exec_mapUpdate rfl rfl (show _ = dkey D from HDK.out.symm) rfl hr, rfl⟩, M', hm2, hin, hot, (h1.mono (fun _ _ h => h.elim)).trans hb2, h2.but hb2 (fun j hj _ e => ?_)⟩
        have := (h2.ge j hj).1
        have := HMQ.out.lt
        omega
      · intro _ _ Y hY
        go_simp
        refine hY _ ?_
        clear hY Y
        intro ι hne X hX
        refine still_nil ?_
        rintro w' ⟨M', h1, h2, h3, h4, h5⟩
        go_wp2
        go_end0
        obtain ⟨own1, he1, hf1, ht1, hb1⟩ := HOW.out
        have hbl := HMQ.out.lt
        have hsz := HBT.out.size
        have hnone : ∀ k, u.ownBlock = some k → own1 k = .none := fun k hk => ht1 k (h5.ge k hk).1
        have he2 : Ext own1 (tagV own1 u .byt) := Ext.tagV (fun k hk => .inl (hnone k hk))
        refine ⟨rfl, ?_, tagV own1 u .byt, .map (some b), he1.trans he2, hf1.tagV (fun k hk => .inl (Nat.le_trans hsz (h5.ge k hk).1)), (ht1.grow h4.size).tagV (fun k hk => (h5.ge k hk).2), ?_, ?_⟩
        · refine ⟨h4.os.trans HBT.out.os, h4.tape.trans HBT.out.tape, h4.output.trans HBT.out.output, Nat.le_trans hsz h4.size, fun k hk hn => ?_⟩
          refine (h4.block k (Nat.lt_of_lt_of_le hk hsz) (fun e => ?_)).trans (HBT.out.block k hk (fun e => hn (.inl e)))
          subst e
          by_cases hkk : own k = .none
          · have := hf1 k (by rw [hb1, hkk]; decide)
            omega
          · exact hn (.inr (by rw [← he1 k hkk]; exact hb1))
        · exact HLW.out.but h4 (fun e => by
            subst e
            have := HG.out
            have h9 := he1.is (t := .log) (by decide) gl this
            rw [show own1 gl = .log from h9] at hb1; cases hb1)
        · have HALL : But (fun k => k = gl ∨ k = b) w w' := (HBT.out.mono (fun _ _ h => .inl h)).trans (h4.mono (fun _ _ h => .inr h))
          refine InM.put HMP.out HFN.out h1 h2 h3 HALL (fun k hk hR => ?_) (he1.trans he2) (he2.is (by decide) b hb1) ⟨h5.bs, fun _ k hk => tagV_own hk⟩
          rcases hR with rfl | rfl
          · have := HG.out
            rw [hk] at this; cases this
          · have := he1.is (t := .byt) (by decide) k hk
            rw [show own1 k = .byt from this] at hb1; cases hb1
theorem getD_add_lt {α : Type} (L : List α) (x d : α) {i : Nat} (h : i < L.length) : (L ++ [x]).getD i d = L.getD i d := by
  simp [List.getD, List.getElem?_append_left h]
theorem getD_add_eq {α : Type} (L : List α) (x d : α) : (L ++ [x]).getD L.length d = x := by simp [List.getD]
section
variable {p q : Nat → Nat → Bool} {n : Nat}
theorem Fst2.stay {i j : Nat} (h : Fst2 p n (some (i, j))) (ha : ∀ k l, k < l → l < n → q k l = p k l) : Fst2 q (n + 1) (some (i, j)) := by
  obtain ⟨h1, h2, h3, h4, h5⟩ := h
  refine ⟨h1, by omega, by rw [ha i j h1 h2]; exact h3, fun k hk => by rw [ha k j (by omega) h2]; exact h4 k hk, fun l hl k hk => by rw [ha k l hk (by omega)]; exact h5 l hl k hk⟩
theorem Fst2.still (h : Fst2 p n none) (ha : ∀ k l, k < l → l < n → q k l = p k l) (hn : ∀ k, k < n → q k n = false) : Fst2 q (n + 1) none := by
  intro j hj i hi
  by_cases hjn : j = n
  · subst hjn; exact hn i hi
  · rw [ha i j hi (by omega)]; exact h j (by omega) i hi
theorem Fst2.new {i : Nat} (h : Fst2 p n none) (ha : ∀ k l, k < l → l < n → q k l = p k l) (hi : i < n) (hq : q i n = true) (hn : ∀ k, k < i → q k n = false) : Fst2 q (n + 1) (some (i, n)) :=
  ⟨hi, by omega, hq, hn, fun l hl k hk => by rw [ha k l hk hl]; exact h l hl k hk⟩
end
theorem ck_old (P : List Pr) (x : Pr) : ∀ k l, k < l → l < P.length → ck (P ++ [x]) k l = ck P k l := by
  intro k l h1 h2
  unfold ck
  rw [getD_add_lt P x p0 (by omega), getD_add_lt P x p0 h2]
theorem firstIn_some {P : List Pr} {D x : List Nat} (h : firstIn P D = some x) : ∃ i, i < P.length ∧ (P.getD i p0).2 = D ∧ (P.getD i p0).1 = x ∧ ∀ k, k < i → (P.getD k p0).2 ≠ D := by
  unfold firstIn at h
  obtain ⟨y, hy, rfl⟩ := Option.map_eq_some_iff.1 h
  obtain ⟨h1, i, hi, h2, h3⟩ := List.find?_eq_some_iff_getElem.1 hy
  have e : P.getD i p0 = y := by simp [List.getD, hi, h2]
  refine ⟨i, hi, by rw [e]; simpa using h1, by rw [e], fun k hk hD => ?_⟩
  have h4 := h3 k hk
  have e2 : P.getD k p0 = P[k] := by simp [List.getD, show k < P.length by omega]
  rw [e2] at hD
  simp [hD] at h4
theorem firstIn_none {P : List Pr} {D : List Nat} (h : firstIn P D = none) : ∀ k, k < P.length → (P.getD k p0).2 ≠ D := by
  unfold firstIn at h
  rw [Option.map_eq_none_iff, List.find?_eq_none] at h
  intro k hk hD
  have e2 : P.getD k p0 = P[k] := by simp [List.getD, hk]
  have := h P[k] (List.getElem_mem hk)
  rw [e2] at hD
  simp [hD] at this
theorem ck_none {P : List Pr} {D xs : List Nat} (h : firstIn P D = none) : ∀ k, k < P.length → ck (P ++ [(xs, D)]) k P.length = false := by
  intro k hk
  unfold ck
  rw [getD_add_lt P _ p0 hk, getD_add_eq]
  exact decide_eq_false (fun e => firstIn_none h k hk e.1)
theorem ck_same {P : List Pr} {D xs : List Nat} (h : firstIn P D = some xs) (hn : Fst2 (ck P) P.length none) : ∀ k, k < P.length → ck (P ++ [(xs, D)]) k P.length = false := by
  intro k hk
  unfold ck
  rw [getD_add_lt P _ p0 hk, getD_add_eq]
  refine decide_eq_false (fun e => e.2 ?_)
  obtain ⟨i, hi, h1, h2, h3⟩ := firstIn_some h
  rcases Nat.lt_trichotomy i k with hik | rfl | hik
  · have := hn k hk i hik
    unfold ck at this
    have := of_decide_eq_false this
    by_cases hx : (P.getD k p0).1 = xs
    · exact hx
    · exact absurd ⟨h1.trans e.1.symm, fun e2 => hx (by rw [← e2]; exact h2)⟩ this
  · exact h2
  · exact absurd e.1 (h3 k hik)
theorem ck_new {P : List Pr} {D xs x : List Nat} (h : firstIn P D = some x) (hne : x ≠ xs) : ∃ i, i < P.length ∧ ck (P ++ [(xs, D)]) i P.length = true ∧ (∀ k, k < i → ck (P ++ [(xs, D)]) k P.length = false) ∧ ((P ++ [(xs, D)]).getD i p0).1 = x := by
  obtain ⟨i, hi, h1, h2, h3⟩ := firstIn_some h
  refine ⟨i, hi, ?_, fun k hk => ?_, by rw [getD_add_lt P _ p0 hi]; exact h2⟩
  · unfold ck
    rw [getD_add_lt P _ p0 hi, getD_add_eq]
    exact decide_eq_true ⟨h1, by rw [h2]; exact hne⟩
  · unfold ck
    rw [getD_add_lt P _ p0 (by omega), getD_add_eq]
    exact decide_eq_false (fun e => h3 k hk e.1)
theorem InM.same {w : World} {own : Owner} {v : Value} {P : List Pr} {xs D x : List Nat} (h : InM w own v P) (hf : firstIn P D = some x) : InM w own v (P ++ [(xs, D)]) := by
  obtain ⟨M, h1, h2⟩ := h
  refine ⟨M, h1, fun E hE => ?_⟩
  rw [firstIn_add]
  have := h2 E hE
  cases hE2 : firstIn P E with
  | some y => rw [hE2] at this; exact this
  | none =>
    rw [hE2] at this
    by_cases hDE : D = E
    · subst hDE; rw [hf] at hE2; cases hE2
    · simp only [if_neg hDE]; exact this
theorem Cla.keep {w : World} {own : Owner} {v : Value} {P : List Pr} {x : Pr} (h : Cla w own v P) (hn : Fst2 (ck P) P.length none → ∀ k, k < P.length → ck (P ++ [x]) k P.length = false) : Cla w own v (P ++ [x]) := by
  obtain ⟨L, h1, h2⟩ := h
  refine ⟨L, h1, ?_⟩
  rw [List.length_append, List.length_singleton]
  rcases h2 with ⟨h2, h3⟩ | ⟨i, j, h2, h3⟩
  · exact .inl ⟨h2, h3.still (ck_old P x) (hn h3)⟩
  · refine .inr ⟨i, j, h2.stay (ck_old P x), ?_⟩
    have hj := h2.2.1
    have hi := h2.1
    rw [getD_add_lt P x p0 (by omega), getD_add_lt P x p0 hj]
    exact h3
/-- The log's other parts stay where only its own block and the map of inputs turn. -/
theorem LgV.swap {R : Nat → Prop} {w w' : World} {own own' : Owner} {gl : Nat} {P P' : List Pr} {S O : List Tup} {nh no : Nat} {vi vi' vc vc' vm vt vb vs : Value} (h : LgV w own gl P S O nh no vi vc vm vt vb vs) (k : But R w w') (hr : ∀ b, own b ≠ .none → own b ≠ .log → own b ≠ .inm → own b ≠ .cla → ¬ R b) (he : Ext own own') (ht : Top w' own')
    (hb : Blk w' gl 57 (lgc nh no vi' vc' vm vt vb vs)) (hi : InM w' own' vi' P') (hc : Cla w' own' vc' P') : LgV w' own' gl P' S O nh no vi' vc' vm vt vb vs := by
  have hx : ∀ {b t}, own b = t → t ≠ .none → t ≠ .log → t ≠ .inm → t ≠ .cla → ¬ R b := fun h1 h2 h3 h4 h5 => hr _ (by rw [h1]; exact h2) (by rw [h1]; exact h3) (by rw [h1]; exact h4) (by rw [h1]; exact h5)
  refine ⟨ht, he.is (by decide) gl h.tag, hb, hi, hc, h.sem.but k ?_ he, h.twi.but k ?_ he, h.blo.but k ?_ he, h.str.but k ?_ he⟩
  all_goals intro b hb
  · rcases hb with hb | hb | ⟨e, n, hb⟩
    · exact hx hb (by decide) (by decide) (by decide) (by decide)
    · exact hx hb (by decide) (by decide) (by decide) (by decide)
    · exact hx hb (by simp) (by simp) (by simp) (by simp)
  · rcases hb with hb | hb <;> exact hx hb (by decide) (by decide) (by decide) (by decide)
  · rcases hb with hb | hb <;> exact hx hb (by decide) (by decide) (by decide) (by decide)
  · rcases hb with hb | hb <;> exact hx hb (by decide) (by decide) (by decide) (by decide)
set_option maxRecDepth 100000 in
set_option maxHeartbeats 8000000 in
theorem note_any {w : World} {own : Owner} {gl : Nat} {v : Value} {P : List Pr} {S O : List Tup} {xs D : List Nat} (h : Lg w own gl P S O) (hv : Bf w (Is own .none) v xs) (hl : xs.length ≤ 140737488355328) (hD : wf32 D) (hn : P.length < 1000000) :
    Calls Tryd.prog 51 #[.pointer (some ⟨gl, 0, none⟩), v, dkey D] w fun e w' => e = .returned (.tuple #[]) ∧ LgTo w own gl (P ++ [(xs, D)]) S O w' := by
  obtain ⟨vi, vc, vm, vt, vb, vs, h⟩ := h
  have hgl := h.top.lt (b := gl) (by rw [h.tag]; decide)
  obtain ⟨g0, hg0⟩ : ∃ g, g = w.heap.size := ⟨_, rfl⟩
  obtain ⟨N, hN⟩ : ∃ N, N = (u8s D).toArray := ⟨_, rfl⟩
  have hdk : dkey D = .agg N := by rw [hN]; rfl
  obtain ⟨W0, hW0⟩ : ∃ W0, W0 = w.alloc (.cells N 31) := ⟨_, rfl⟩
  have hT0 : Grow w W0 := by rw [hW0]; exact (But.refl _ w).alloc _
  have hB0 : Blk W0 g0 31 (u8s D) := by rw [hW0, hN]; exact Blk.new hg0.symm
  have hL0 := h.blk.but hT0 (fun h => h)
  have c0 : W0.cell? ⟨gl, 0, none⟩ = some (.int .i64 (P.length : Int)) := hL0.cell 0
  have f0 := hL0.free 0
  obtain ⟨n, hpn⟩ : ∃ n, n = P.length := ⟨_, rfl⟩
  rw [← hpn] at c0 hn
  obtain ⟨W1, hW1⟩ : ∃ W1, W1 = W0.setCell ⟨gl, 0, none⟩ (.int .i64 ((n : Int) + 1)) := ⟨_, rfl⟩
  have hT1 : But (· = gl) w W1 := by rw [hW1]; exact (hT0.mono (fun _ _ h => h.elim)).trans (But.set1 _ _ _ _)
  have hB1 : Blk W1 g0 31 (u8s D) := by rw [hW1]; exact hB0.but (But.set1 _ _ _ _) (show ¬ (g0 = gl) by omega)
  have hq : ∀ {b t}, own b = t → t ≠ .log → ¬ (b = gl) := fun h1 h2 e => h2 (by rw [← h1, e]; exact h.tag)
  have hL1 : LgV W1 own gl P S O (n + 1) O.length vi vc vm vt vb vs := by
    refine ⟨h.top.grow hT1.size, h.tag, ?_, h.inm.but hT1 ?_ (Ext.refl _), h.cla.but hT1 ?_ (Ext.refl _), h.sem.but hT1 ?_ (Ext.refl _), h.twi.but hT1 ?_ (Ext.refl _), h.blo.but hT1 ?_ (Ext.refl _), h.str.but hT1 ?_ (Ext.refl _)⟩
    · rw [hW1]; exact hL0.set 0 _
    all_goals intro b hb
    · rcases hb with hb | hb <;> exact hq hb (by decide)
    · rcases hb with hb | hb <;> exact hq hb (by decide)
    · rcases hb with hb | hb | ⟨e, n, hb⟩
      · exact hq hb (by decide)
      · exact hq hb (by decide)
      · exact hq hb (by simp)
    · rcases hb with hb | hb <;> exact hq hb (by decide)
    · rcases hb with hb | hb <;> exact hq hb (by decide)
    · rcases hb with hb | hb <;> exact hq hb (by decide)
  have hV1 : Bf W1 (Is own .none) v xs := hv.but hT1 (fun j hj e => by have h1 := h.tag; rw [← e, show own j = .none from hj] at h1; cases h1)
  have hwr : IntKind.i64.wrap ((n : Int) + 1) = (n : Int) + 1 := wrap_i64 _ (by omega) (by omega)
  rw [hdk]
  obtain ⟨l, hkl⟩ := key_d hD
  rw [hdk] at hkl
  have HB1 := Hid.mk' hB1
  have HL1 := Hid.mk' hL1
  have HT1 := Hid.mk' hT1
  have HV1 := Hid.mk' hV1
  have HN := Hid.mk' hN
  have HDK := Hid.mk' hdk
  have HD := Hid.mk' hD
  have HLX := Hid.mk' hl
  have HG0 := Hid.mk' hg0
  have HW0 := Hid.mk' hW0
  have HW1 := Hid.mk' hW1
  have HPN := Hid.mk' hpn
  have HKL := Hid.mk' hkl
  have HTAG := Hid.mk' h.tag
  rw [hW0] at c0 f0
  obtain ⟨M, hM, hMP⟩ := hL1.inm.ex
  have hlk := hMP D hD
  have HM := Hid.mk' hM
  clear hdk hN hB0 hL0 hT0 hB1 hL1 hT1 hV1 hD hl hv hW0 hW1 hpn hkl hq h hMP hM hgl hg0
  cases hf : firstIn P D with
  | none =>
    rw [hf] at hlk
    have HLK : Hid (∀ w', Grow W1 w' → (Instr.lookup 53 vi (.agg N) true).run Tryd.prog w' = .ok (.tuple #[.slice none 0 0, .bool false]) w') := fun w' hw => by
      rcases HM.out with ⟨rfl, _⟩ | ⟨b, rfl, _, hm⟩
      · exact look_none keyD Tryd.underlying53 (zS w') HKL.out true
      · exact ((hm.but hw (fun h => h)).look keyD Tryd.underlying53 (zS w') HKL.out true).2 (by rw [← HDK.out]; exact hlk)
    have HF := Hid.mk' hf
    clear hlk hf
    go_enter Tryd.func51, Tryd.ntmps51
    go_upto_region 3 with fail
    rw [← HW0.out, ← HW1.out, ← HG0.out]
    refine region_chain [] [0, 1, 2, 3, 4, 5, 6, 7, 8, 9, 10] (Grow W1) (Grow W1) (by kernel_rfl) (by kernel_rfl) (fun _ _ h k => h.trans k) (fun _ h => h) ((But.refl _ W1).drew) ?_
    intro ι hne X hX
    have c1 : ∀ x, (X x).cell? ⟨gl, 1, none⟩ = some vi := fun x => (HL1.out.blk.but (hX x) (fun h => h)).cell 1
    iterate 4 (refine still_step rfl (fun K hK => ?_); go_simp; refine hK _ ?_; clear hK K)
    refine still_val rfl (.agg N) rfl (fun x => by rw [HN.out]; exact run_load_arr ukt i32 (HB1.out.but (hX x) (fun h => h)).cells0 HD.out.1 rfl rfl) ?_
    intro K hK; go_simp; refine hK _ ?_; clear hK K
    refine still_val rfl (.tuple #[.slice none 0 0, .bool false]) rfl (fun x => exec_lookup rfl rfl rfl (HLK.out _ (hX x))) ?_
    intro K hK; go_simp; refine hK _ ?_; clear hK K
    iterate 5 (refine still_step rfl (fun K hK => ?_); go_simp; refine hK _ ?_; clear hK K)
    refine still_nil ?_
    clear c1 hX hne
    intro W3 hW3
    have HT3 := Hid.mk' (HT1.out.then hW3 (fun _ _ h => h.elim))
    have hL3 := HL1.out.but hW3 (fun _ _ h => h) (Ext.refl _) (HL1.out.top.grow hW3.size)
    have HL3 := Hid.mk' hL3
    have HKP := Hid.mk' (keep_any hL3.top hL3.tag hL3.blk hL3.inm (HV1.out.but hW3 (fun _ _ h => h)) HLX.out HD.out HF.out)
    have HB3 := Hid.mk' (HB1.out.but hW3 (fun h => h))
    rw [HDK.out] at HKP
    clear hL3 hW3 HL1 HV1 HB1 HLK
    go_wp2_with (first
      | (refine wpList_load_u8s ukt i32 rfl _ rfl g0 D HD.out.1 rfl HB3.out ?_; rw [← HN.out])
      | fail)
    refine Calls.mono HKP.out ?_
    rintro e w' ⟨rfl, hk⟩
    go_wp2
    refine bodyPost_ret (results_none rfl _ _ _) rfl ⟨rfl, ?_⟩
    obtain ⟨own', vi', he, hfr, ht, hb, hi⟩ := hk.ex
    have hnn : own gl ≠ .none := by rw [HTAG.out]; decide
    refine ⟨(HT3.out.mono (fun b _ e => by rw [e]; exact hnn)).trans (hk.but.mono (fun b _ e => ?_)), own', he, fun b hb => Nat.le_trans HT3.out.size (hfr b hb), vi', vc, vm, vt, vb, vs, ?_⟩
    · rcases e with rfl | e
      · exact hnn
      · rw [e]; decide
    · rw [List.length_append, List.length_singleton, ← HPN.out]
      refine HL3.out.swap hk.but (fun b h1 h2 h3 _ hR => ?_) he ht hb hi ((HL3.out.cla.keep (fun _ => ck_none HF.out)).but hk.but (fun b hbb hR => ?_) he)
      · rcases hR with rfl | hR
        · exact h2 HTAG.out
        · exact h3 hR
      · rcases hR with e | hR
        · rw [e, HTAG.out] at hbb
          rcases hbb with h9 | h9 <;> cases h9
        · rw [hR] at hbb
          rcases hbb with h9 | h9 <;> cases h9
  | some x =>
    rw [hf] at hlk
    obtain ⟨u, hu1, hu2⟩ := hlk
    have HLK : Hid (∀ w', Grow W1 w' → (Instr.lookup 53 vi (.agg N) true).run Tryd.prog w' = .ok (.tuple #[u, .bool true]) w') := fun w' hw => by
      rcases HM.out with ⟨rfl, rfl⟩ | ⟨b, rfl, _, hm⟩
      · cases hu1
      · exact ((hm.but hw (fun h => h)).look keyD Tryd.underlying53 (zS w') HKL.out true).1 u (by rw [← HDK.out]; exact hu1)
    have HF := Hid.mk' hf
    have HU := Hid.mk' hu2
    obtain ⟨au, nu, cu, hue⟩ := hu2.1.sl
    clear hf hu1 hu2
    go_enter Tryd.func51, Tryd.ntmps51
    go_upto_region 3 with fail
    rw [← HW0.out, ← HW1.out, ← HG0.out]
    refine region_chain [] [0, 1, 2, 3, 4, 5, 6, 7, 8, 9, 10] (Grow W1) (Grow W1) (by kernel_rfl) (by kernel_rfl) (fun _ _ h k => h.trans k) (fun _ h => h) ((But.refl _ W1).drew) ?_
    intro ι hne X hX
    have c1 : ∀ x, (X x).cell? ⟨gl, 1, none⟩ = some vi := fun x => (HL1.out.blk.but (hX x) (fun h => h)).cell 1
    iterate 4 (refine still_step rfl (fun K hK => ?_); go_simp; refine hK _ ?_; clear hK K)
    refine still_val rfl (.agg N) rfl (fun x => by rw [HN.out]; exact run_load_arr ukt i32 (HB1.out.but (hX x) (fun h => h)).cells0 HD.out.1 rfl rfl) ?_
    intro K hK; go_simp; refine hK _ ?_; clear hK K
    refine still_val rfl (.tuple #[u, .bool true]) rfl (fun x => exec_lookup rfl rfl rfl (HLK.out _ (hX x))) ?_
    intro K hK; go_simp; refine hK _ ?_; clear hK K
    iterate 5 (refine still_step rfl (fun K hK => ?_); go_simp; refine hK _ ?_; clear hK K)
    refine still_nil ?_
    clear c1 hX hne
    intro W3 hW3
    have HT3 := Hid.mk' (HT1.out.then hW3 (fun _ _ h => h.elim))
    have hL3 := HL1.out.but hW3 (fun _ _ h => h) (Ext.refl _) (HL1.out.top.grow hW3.size)
    have HL3 := Hid.mk' hL3
    have HU3 := Hid.mk' (HU.out.but hW3 (fun _ _ h => h))
    have HV3 := Hid.mk' (HV1.out.but hW3 (fun _ _ h => h))
    have hq : own gl ≠ .none := by rw [HTAG.out]; decide
    have HBW : Hid (But (fun b => own b ≠ .none) w W3) := HT3.out.mono (fun b _ e => by rw [e]; exact hq)
    have hdone : (Fst2 (ck P) P.length none → ∀ k, k < P.length → ck (P ++ [(xs, D)]) k P.length = false) → LgTo w own gl (P ++ [(xs, D)]) S O W3 := fun hh => by
      refine ⟨HBW.out, own, Ext.refl _, Fresh.refl _ _, vi, vc, vm, vt, vb, vs, ?_⟩
      rw [List.length_append, List.length_singleton, ← HPN.out]
      exact HL3.out.swap (But.refl (fun _ => False) _) (fun _ _ _ _ _ h => h) (Ext.refl _) HL3.out.top HL3.out.blk (HL3.out.inm.same HF.out) (HL3.out.cla.keep hh)
    have HDN := Hid.mk' hdone
    obtain ⟨L, hLr, hLc⟩ := hL3.cla.ex
    obtain ⟨ac, cc, hvc⟩ := hLr.len
    subst hvc
    have c2 : W3.cell? ⟨gl, 2, none⟩ = some (.slice ac L.length cc) := hL3.blk.cell 2
    have f2 := hL3.blk.free 2
    have HUE := Hid.mk' hue
    clear hL3 hW3 HL1 HV1 HB1 HLK HU hq hdone hLr
    rcases hLc with ⟨rfl, hF2⟩ | ⟨i, j, hF2, hLM⟩
    · have HF2 := Hid.mk' hF2
      have HEQ := Hid.mk' (equal_any HU3.out.1 HV3.out.1)
      subst hue
      simp only [List.length_nil] at c2
      by_cases hxx : x = xs
      · rw [decide_eq_true hxx] at HEQ
        have HXX := Hid.mk' hxx
        clear hF2 hxx
        go_wp2_with fail
        refine Calls.mono HEQ.out ?_
        rintro e w' ⟨rfl, hw⟩
        have hw2 := hw.symm
        subst hw2
        go_wp2
        go_end0
        exact ⟨rfl, HDN.out (fun hF k hk => by have := HF.out; rw [HXX.out] at this; exact ck_same this hF k hk)⟩
      · rw [decide_eq_false hxx] at HEQ
        have HXX := Hid.mk' hxx
        have HCL := Hid.mk' (clone_any HV3.out.1 HLX.out)
        clear hF2 hxx
        go_wp2_with fail
        refine Calls.mono HEQ.out ?_
        rintro e w' ⟨rfl, hw⟩
        have hw2 := hw.symm
        subst hw2
        go_wp2_with fail
        refine Calls.mono HCL.out ?_
        rintro e W4 ⟨v', rfl, ho, hbl⟩
        have hg4 : Grow W3 W4 := But.of hbl
        obtain ⟨av, nv, cv, hve⟩ := ho.bs.sl
        have HO := Hid.mk' ho
        have HG4 := Hid.mk' hg4
        have HVE := Hid.mk' hve
        subst hve
        have HL4 := Hid.mk' (HL3.out.but hg4 (fun _ _ h => h) (Ext.refl _) (HL3.out.top.grow hg4.size))
        have c2' : (W4.alloc (.cells #[.slice au nu cu, .slice av nv cv] 22)).cell? ⟨gl, 2, none⟩ = some (.slice ac 0 cc) := by
          have := (HL4.out.blk.but (R := fun _ => False) ((But.refl _ W4).alloc (.cells #[.slice au nu cu, .slice av nv cv] 22)) (fun h => h)).cell 2
          exact this
        have f2' : (W4.alloc (.cells #[.slice au nu cu, .slice av nv cv] 22)).frozen? ⟨gl, 2, none⟩ = false := (HL4.out.blk.but (R := fun _ => False) ((But.refl _ W4).alloc (.cells #[.slice au nu cu, .slice av nv cv] 22)) (fun h => h)).free 2
        clear hbl ho hg4 HCL HEQ c2 f2
        go_wp2
        go_end0
        refine ⟨rfl, ?_⟩
        have hgl : gl < W3.heap.size := HL3.out.blk.lt
        have hsz := HG4.out.size
        obtain ⟨gC, hgC⟩ : ∃ g, g = W4.heap.size := ⟨_, rfl⟩
        rw [← hgC]
        obtain ⟨w', hw'⟩ : ∃ w', w' = (W4.alloc (.cells #[.slice au nu cu, .slice av nv cv] 22)).setCell ⟨gl, 2, none⟩ (.slice (some ⟨gC, 0, none⟩) 2 2) := ⟨_, rfl⟩
        rw [← hw']
        have k4 : But (· = gl) W4 w' := by rw [hw']; exact ((But.refl _ W4).alloc _).trans (But.set1 _ _ _ _)
        have hbC : Blk w' gC 22 [.slice au nu cu, .slice av nv cv] := by rw [hw']; exact (Blk.new (L := [.slice au nu cu, .slice av nv cv]) hgC.symm).but (But.set1 _ _ _ _) (show ¬ (gC = gl) by omega)
        have hbL : Blk w' gl 57 (lgc (n + 1) O.length vi (.slice (some ⟨gC, 0, none⟩) 2 2) vm vt vb vs) := by rw [hw']; exact (HL4.out.blk.but (R := fun _ => False) ((But.refl _ W4).alloc _) (fun h => h)).set 2 _
        have hsw : w'.heap.size = gC + 1 := by rw [hw']; simp; omega
        generalize Value.slice av nv cv = v' at *
        generalize Value.slice au nu cu = u at *
        have hnone : ∀ k, v'.ownBlock = some k → own k = .none := fun k hk => HL3.out.top k (HO.out.ge k hk).1
        have he1 : Ext own (tagV own v' .byt) := Ext.tagV (fun k hk => .inl (hnone k hk))
        have ht1 : Top W4 (tagV own v' .byt) := HL4.out.top.tagV (fun k hk => (HO.out.ge k hk).2)
        have he2 : Ext (tagV own v' .byt) (tagAt (tagV own v' .byt) gC .cla) := Ext.tagAt (.inl (ht1 gC (by omega)))
        have hws : w.heap.size ≤ W3.heap.size := HBW.out.size
        have hnl : ∀ b t, own b = t → t ≠ .log → ¬ (b = gl) := fun b t h1 h2 e => h2 (by rw [← h1, e]; exact HTAG.out)
        have hgn : own gl ≠ .none := by rw [HTAG.out]; decide
        refine ⟨(HBW.out.trans (HG4.out.mono (fun _ _ h => h.elim))).trans (k4.mono (fun b _ e => by rw [e]; exact hgn)), tagAt (tagV own v' .byt) gC .cla, he1.trans he2, ((Fresh.refl w own).tagV (fun k hk => .inl (Nat.le_trans hws (HO.out.ge k hk).1))).tagAt (.inl (by omega)), vi, .slice (some ⟨gC, 0, none⟩) 2 2, vm, vt, vb, vs, ?_⟩
        rw [List.length_append, List.length_singleton, ← HPN.out]
        refine HL4.out.swap k4 (fun b _ h2 _ _ e => h2 (by rw [e]; exact HTAG.out)) (he1.trans he2) ((ht1.grow k4.size).tagAt (by omega)) hbL ((HL4.out.inm.same HF.out).but k4 (fun b hb => ?_) (he1.trans he2)) ?_
        · rcases hb with hb | hb
          · exact hnl b _ hb (by decide)
          · exact hnl b _ hb (by decide)
        · obtain ⟨i, hi, hq1, hq2, hq3⟩ := ck_new HF.out HXX.out
          refine ⟨[(u, x), (v', xs)], ⟨RowOf.lit hbC rfl (by decide) tagAt_own, fun e he => ?_⟩, .inr ⟨i, P.length, ?_, ?_⟩⟩
          · rcases List.mem_cons.1 he with rfl | he
            · exact ((HU3.out.but HG4.out (fun _ _ h => h)).but k4 (fun b hb => hnl b _ hb (by decide))).mono ((he1.trans he2).is (by decide))
            · obtain rfl : e = (v', xs) := by simpa using he
              refine ⟨(HO.out.but k4 (fun k hk _ e => ?_)).bs, fun _ k hk => he2.is (t := .byt) (by decide) k (tagV_own hk)⟩
              have := (HO.out.ge k hk).1
              omega
          · rw [List.length_append, List.length_singleton]
            exact HF2.out.new (ck_old P _) hi hq1 hq2
          · rw [hq3, getD_add_eq]; rfl
    · obtain ⟨ea, eb, rfl, _, _⟩ := two_of hLM
      have HF2 := Hid.mk' hF2
      clear hF2 hLM hue
      simp only [List.length_cons, List.length_nil] at c2
      go_wp2
      go_end0
      exact ⟨rfl, HDN.out (fun hF => by have := HF2.out.uniq hF; cases this)⟩
end Go.Proofs.YtmlladpmecclbaaDoor
/- ghost: Sealed. -/
namespace Go.Proofs.YtmlladpmecclbaaDoor
open Go.RowKit

/-- A log some of whose parts already have what is being sealed. -/
structure LgX (w : World) (own : Owner) (gl : Nat) (P : List Pr) (Sm St Sb Ss O : List Tup) (nh no : Nat) (vi vc vm vt vb vs : Value) : Prop where
  top : Top w own
  tag : own gl = .log
  blk : Blk w gl 57 (lgc nh no vi vc vm vt vb vs)
  inm : InM w own vi P
  cla : Cla w own vc P
  sem : SeM w own vm Sm
  twi : Twi w own vt St
  blo : Blo w own vb Sb
  str : Str w own vs Ss O
theorem LgV.x {w : World} {own : Owner} {gl : Nat} {P : List Pr} {S O : List Tup} {nh no : Nat} {vi vc vm vt vb vs : Value} (h : LgV w own gl P S O nh no vi vc vm vt vb vs) : LgX w own gl P S S S S O nh no vi vc vm vt vb vs := ⟨h.top, h.tag, h.blk, h.inm, h.cla, h.sem, h.twi, h.blo, h.str⟩
theorem LgX.v {w : World} {own : Owner} {gl : Nat} {P : List Pr} {S O : List Tup} {nh no : Nat} {vi vc vm vt vb vs : Value} (h : LgX w own gl P S S S S O nh no vi vc vm vt vb vs) : LgV w own gl P S O nh no vi vc vm vt vb vs := ⟨h.top, h.tag, h.blk, h.inm, h.cla, h.sem, h.twi, h.blo, h.str⟩
section
variable {R : Nat → Prop} {w w' : World} {own own' : Owner} {gl : Nat} {P : List Pr} {Sm St Sb Ss Sm' St' Sb' O : List Tup} {nh no : Nat} {vi vc vm vm' vt vt' vb vb' vs : Value}
theorem LgX.but (h : LgX w own gl P Sm St Sb Ss O nh no vi vc vm vt vb vs) (k : But R w w') (hr : ∀ b, own b ≠ .none → ¬ R b) (he : Ext own own') (ht : Top w' own') : LgX w' own' gl P Sm St Sb Ss O nh no vi vc vm vt vb vs := by
  have hx : ∀ {b t}, own b = t → t ≠ .none → ¬ R b := fun h1 h2 => hr _ (by rw [h1]; exact h2)
  refine ⟨ht, he.is (by decide) gl h.tag, h.blk.but k (hx h.tag (by decide)), h.inm.but k ?_ he, h.cla.but k ?_ he, h.sem.but k ?_ he, h.twi.but k ?_ he, h.blo.but k ?_ he, h.str.but k ?_ he⟩
  all_goals intro b hb
  · rcases hb with hb | hb <;> exact hx hb (by decide)
  · rcases hb with hb | hb <;> exact hx hb (by decide)
  · rcases hb with hb | hb | ⟨e, n, hb⟩
    · exact hx hb (by decide)
    · exact hx hb (by decide)
    · exact hx hb (by simp)
  · rcases hb with hb | hb <;> exact hx hb (by decide)
  · rcases hb with hb | hb <;> exact hx hb (by decide)
  · rcases hb with hb | hb <;> exact hx hb (by decide)
theorem LgX.swapB (h : LgX w own gl P Sm St Sb Ss O nh no vi vc vm vt vb vs) (k : But R w w') (hr : ∀ b, own b ≠ .none → own b ≠ .log → own b ≠ .blo → ¬ R b) (he : Ext own own') (ht : Top w' own')
    (hb : Blk w' gl 57 (lgc nh no vi vc vm vt vb' vs)) (hn : Blo w' own' vb' Sb') : LgX w' own' gl P Sm St Sb' Ss O nh no vi vc vm vt vb' vs := by
  have hx : ∀ {b t}, own b = t → t ≠ .none → t ≠ .log → t ≠ .blo → ¬ R b := fun h1 h2 h3 h4 => hr _ (by rw [h1]; exact h2) (by rw [h1]; exact h3) (by rw [h1]; exact h4)
  refine ⟨ht, he.is (by decide) gl h.tag, hb, h.inm.but k ?_ he, h.cla.but k ?_ he, h.sem.but k ?_ he, h.twi.but k ?_ he, hn, h.str.but k ?_ he⟩
  all_goals intro b hb
  · rcases hb with hb | hb <;> exact hx hb (by decide) (by decide) (by decide)
  · rcases hb with hb | hb <;> exact hx hb (by decide) (by decide) (by decide)
  · rcases hb with hb | hb | ⟨e, n, hb⟩
    · exact hx hb (by decide) (by decide) (by decide)
    · exact hx hb (by decide) (by decide) (by decide)
    · exact hx hb (by simp) (by simp) (by simp)
  · rcases hb with hb | hb <;> exact hx hb (by decide) (by decide) (by decide)
  · rcases hb with hb | hb <;> exact hx hb (by decide) (by decide) (by decide)
theorem LgX.swapT (h : LgX w own gl P Sm St Sb Ss O nh no vi vc vm vt vb vs) (k : But R w w') (hr : ∀ b, own b ≠ .none → own b ≠ .log → own b ≠ .twi → ¬ R b) (he : Ext own own') (ht : Top w' own')
    (hb : Blk w' gl 57 (lgc nh no vi vc vm vt' vb vs)) (hn : Twi w' own' vt' St') : LgX w' own' gl P Sm St' Sb Ss O nh no vi vc vm vt' vb vs := by
  have hx : ∀ {b t}, own b = t → t ≠ .none → t ≠ .log → t ≠ .twi → ¬ R b := fun h1 h2 h3 h4 => hr _ (by rw [h1]; exact h2) (by rw [h1]; exact h3) (by rw [h1]; exact h4)
  refine ⟨ht, he.is (by decide) gl h.tag, hb, h.inm.but k ?_ he, h.cla.but k ?_ he, h.sem.but k ?_ he, hn, h.blo.but k ?_ he, h.str.but k ?_ he⟩
  all_goals intro b hb
  · rcases hb with hb | hb <;> exact hx hb (by decide) (by decide) (by decide)
  · rcases hb with hb | hb <;> exact hx hb (by decide) (by decide) (by decide)
  · rcases hb with hb | hb | ⟨e, n, hb⟩
    · exact hx hb (by decide) (by decide) (by decide)
    · exact hx hb (by decide) (by decide) (by decide)
    · exact hx hb (by simp) (by simp) (by simp)
  · rcases hb with hb | hb <;> exact hx hb (by decide) (by decide) (by decide)
  · rcases hb with hb | hb <;> exact hx hb (by decide) (by decide) (by decide)
theorem LgX.swapM (h : LgX w own gl P Sm St Sb Ss O nh no vi vc vm vt vb vs) (k : But R w w') (hr : ∀ b, own b ≠ .none → own b ≠ .log → own b ≠ .sem → (∀ e n, own b ≠ .use e n) → ¬ R b) (he : Ext own own') (ht : Top w' own')
    (hb : Blk w' gl 57 (lgc nh no vi vc vm' vt vb vs)) (hn : SeM w' own' vm' Sm') : LgX w' own' gl P Sm' St Sb Ss O nh no vi vc vm' vt vb vs := by
  have hx : ∀ {b t}, own b = t → t ≠ .none → t ≠ .log → t ≠ .sem → (∀ e n, t ≠ .use e n) → ¬ R b := fun h1 h2 h3 h4 h5 => hr _ (by rw [h1]; exact h2) (by rw [h1]; exact h3) (by rw [h1]; exact h4) (by rw [h1]; exact h5)
  refine ⟨ht, he.is (by decide) gl h.tag, hb, h.inm.but k ?_ he, h.cla.but k ?_ he, hn, h.twi.but k ?_ he, h.blo.but k ?_ he, h.str.but k ?_ he⟩
  all_goals intro b hb
  · rcases hb with hb | hb <;> exact hx hb (by decide) (by decide) (by decide) (by simp)
  · rcases hb with hb | hb <;> exact hx hb (by decide) (by decide) (by decide) (by simp)
  · rcases hb with hb | hb <;> exact hx hb (by decide) (by decide) (by decide) (by simp)
  · rcases hb with hb | hb <;> exact hx hb (by decide) (by decide) (by decide) (by simp)
  · rcases hb with hb | hb <;> exact hx hb (by decide) (by decide) (by decide) (by simp)
end
theorem byUse_add (S : List Tup) (T : Tup) (e : Nat) (n : List Nat) : byUse (S ++ [T]) e n = if T.1 = e ∧ T.2.1 = n then byUse S e n ++ [T] else byUse S e n := by
  unfold byUse
  rw [List.filter_append]
  by_cases h : T.1 = e ∧ T.2.1 = n
  · simp [h]
  · simp [h]
theorem outOf_add (S O : List Tup) (T : Tup) : outOf (S ++ [T]) O = (outOf S O).filter fun o => decide (o ≠ T) := by
  unfold outOf
  rw [List.filter_filter]
  congr 1
  funext o
  by_cases h1 : o ∈ S <;> by_cases h2 : o = T <;> simp [h1, h2]
theorem Str.grow {w : World} {own : Owner} {v : Value} {S O : List Tup} (h : Str w own v S O) (T : Tup) : Str w own v (S ++ [T]) O := by
  obtain ⟨L, h1, h2⟩ := h
  exact ⟨L, h1, by rw [outOf_add, outOf_add, h2.1], h2.2⟩
theorem Blo.add {w' : World} {own' : Owner} {vb : Value} {S : List Tup} {T : Tup} {u : Value} {L : List BE} (hL : L.map (·.2) = S.map (·.2.2.2)) (he : ∀ e ∈ L, Bf w' (Is own' .byt) e.1 e.2) (hr : RowOf w' (Is own' .blo) 22 1 vb (L.length + 1) (L.map (·.1) ++ [u])) (hu : Bf w' (Is own' .byt) u T.2.2.2) : Blo w' own' vb (S ++ [T]) := by
  refine ⟨L ++ [(u, T.2.2.2)], ⟨?_, fun e h => ?_⟩, by simp [hL]⟩
  · rw [List.length_append, List.length_singleton, List.map_append]; exact hr
  · rcases List.mem_append.1 h with h | h
    · exact he e h
    · obtain rfl : e = (u, T.2.2.2) := by simpa using h
      exact hu
theorem tk_old (S : List Tup) (T : Tup) : ∀ k l, k < l → l < S.length → tk (S ++ [T]) k l = tk S k l := by
  intro k l h1 h2
  unfold tk
  rw [getD_add_lt S T t0 (by omega), getD_add_lt S T t0 h2]
theorem tk_at (S : List Tup) (T : Tup) {k : Nat} (hk : k < S.length) : tk (S ++ [T]) k S.length = decide ((S.getD k t0).1 = T.1 ∧ (S.getD k t0).2.1 = T.2.1) := by
  unfold tk
  rw [getD_add_lt S T t0 hk, getD_add_eq]
theorem tk_none {S : List Tup} {T : Tup} (h : byUse S T.1 T.2.1 = []) : ∀ k, k < S.length → tk (S ++ [T]) k S.length = false := by
  intro k hk
  rw [tk_at S T hk]
  unfold byUse at h
  rw [List.filter_eq_nil_iff] at h
  have h2 := h (S.getD k t0) (by simp [List.getD, hk])
  simpa using h2
theorem tk_new {S : List Tup} {T a : Tup} {l : List Tup} (h : byUse S T.1 T.2.1 = a :: l) : ∃ i, i < S.length ∧ tk (S ++ [T]) i S.length = true ∧ (∀ k, k < i → tk (S ++ [T]) k S.length = false) ∧ (S ++ [T]).getD i t0 = a := by
  unfold byUse at h
  have hf : S.find? (fun t => decide (t.1 = T.1 ∧ t.2.1 = T.2.1)) = some a := by
    rw [← List.head?_filter, h]; rfl
  obtain ⟨h1, i, hi, h2, h3⟩ := List.find?_eq_some_iff_getElem.1 hf
  have e : S.getD i t0 = a := by simp [List.getD, hi, h2]
  refine ⟨i, hi, ?_, fun k hk => ?_, by rw [getD_add_lt S T t0 hi, e]⟩
  · rw [tk_at S T hi, e]; exact h1
  · rw [tk_at S T (by omega)]
    have h4 := h3 k hk
    have e2 : S.getD k t0 = S[k] := by simp [List.getD, show k < S.length by omega]
    rw [e2]
    cases hd : decide (S[k].1 = T.1 ∧ S[k].2.1 = T.2.1) with
    | false => rfl
    | true => simp only [hd] at h4; cases h4
theorem Twi.keep {w : World} {own : Owner} {v : Value} {S : List Tup} {T : Tup} (h : Twi w own v S) (hn : Fst2 (tk S) S.length none → ∀ k, k < S.length → tk (S ++ [T]) k S.length = false) : Twi w own v (S ++ [T]) := by
  obtain ⟨L, h1, h2⟩ := h
  refine ⟨L, h1, ?_⟩
  rw [List.length_append, List.length_singleton]
  rcases h2 with ⟨h2, h3⟩ | ⟨i, j, h2, h3⟩
  · exact .inl ⟨h2, h3.still (tk_old S T) (hn h3)⟩
  · refine .inr ⟨i, j, h2.stay (tk_old S T), ?_⟩
    have hj := h2.2.1
    have hi := h2.1
    rw [getD_add_lt S T t0 (by omega), getD_add_lt S T t0 hj]
    exact h3
/-- The map of seals has one more. -/
theorem SeM.put {w w' : World} {own own' : Owner} {b : Nat} {M M' : List (Value × Value)} {S : List Tup} {T : Tup} {u : Value} {L : List TE} {va vs : Value}
    (hM : ∀ e n, wfU e n → ∃ u L, TRow w (Is own (.use e n)) (Is own .byt) u L ∧ L.map (·.1) = byUse S e n ∧ ((ukey e n, u) ∈ M ∨ ((∀ p ∈ M, p.1 ≠ ukey e n) ∧ u = .slice none 0 0 ∧ L = [])))
    (hmp : Mp Tryd.prog 146 w' b M') (hin : (ukey T.1 T.2.1, u) ∈ M') (hot : ∀ k v, k ≠ ukey T.1 T.2.1 → ((k, v) ∈ M' ↔ (k, v) ∈ M))
    {R : Nat → Prop} (hk : But R w w') (hr : ∀ c, own c = .byt ∨ (∃ e n, own c = .use e n ∧ ¬ (e = T.1 ∧ n = T.2.1)) → ¬ R c) (he : Ext own own') (hb : own' b = .sem) (hL : L.map (·.1) = byUse S T.1 T.2.1)
    (hrow : TRow w' (Is own' (.use T.1 T.2.1)) (Is own' .byt) u (L ++ [(T, va, vs)])) : SeM w' own' (.map (some b)) (S ++ [T]) := by
  refine ⟨M', .inr ⟨b, rfl, hb, hmp⟩, fun e n hU => ?_⟩
  rw [byUse_add]
  by_cases hen : T.1 = e ∧ T.2.1 = n
  · obtain ⟨rfl, rfl⟩ := hen
    rw [if_pos ⟨rfl, rfl⟩]
    exact ⟨u, _, hrow, by simp [hL], .inl hin⟩
  · rw [if_neg hen]
    obtain ⟨u2, L2, h1, h2, h3⟩ := hM e n hU
    have hne : ukey e n ≠ ukey T.1 T.2.1 := fun e2 => by have := ukey_inj e2; exact hen ⟨this.1.symm, this.2.symm⟩
    refine ⟨u2, L2, h1.but hk (fun j hj => hr j (.inr ⟨e, n, hj, fun h => hen ⟨h.1.symm, h.2.symm⟩⟩)) (fun j hj => hr j (.inl hj)) (he.is (by simp)) (he.is (by decide)), h2, ?_⟩
    rcases h3 with h3 | ⟨h3, h4⟩
    · exact .inl ((hot _ _ hne).2 h3)
    · refine .inr ⟨fun p hp e2 => ?_, h4⟩
      have : p.1 ≠ ukey T.1 T.2.1 := by rw [e2]; exact hne
      exact h3 p ((hot p.1 p.2 this).1 hp) e2
theorem tc_one {w : World} {G : Nat → Prop} {e : TE} (h : Tv w G e.1 e.2.1 e.2.2) : ∀ u ∈ tc e, u.oneCell' = true := h.one
theorem tc_len {w : World} {G : Nat → Prop} {e : TE} (h : Tv w G e.1 e.2.1 e.2.2) : (tc e).length = 15 := tcells_len h.nl _ _
theorem zTs (w : World) : (zeroValue 55).run Tryd.prog w = .ok (.slice none 0 0) w := by kernel_rfl
/-- What holds between two parts of Sealed. -/
structure SeI (w : World) (own : Owner) (gl g0 : Nat) (T : Tup) (va vs : Value) (W : World) (own' : Owner) : Prop where
  but : But (fun b => own b ≠ .none) w W
  ext : Ext own own'
  fresh : Fresh w own own'
  box : Blk W g0 148 (tcells T va vs)
  free : own' g0 = .none
  tv : Tv W (Is own' .byt) T va vs
theorem SeI.grow {w : World} {own : Owner} {gl g0 : Nat} {T : Tup} {va vs : Value} {W W' : World} {own' : Owner} (h : SeI w own gl g0 T va vs W own') (k : Grow W W') : SeI w own gl g0 T va vs W' own' :=
  ⟨h.but.trans (k.mono (fun _ _ h => h.elim)), h.ext, h.fresh, h.box.but k (fun h => h), h.free, h.tv.then k⟩
/-- The like ahead of the last part. -/
structure SeJ (W : World) (own : Owner) (gl : Nat) (P : List Pr) (S O : List Tup) (T : Tup) (b : Nat) (M : List (Value × Value)) (u : Value) (Lu : List TE) (np no : Nat) (vi vc vt vb vq : Value) : Prop where
  x : LgX W own gl P S (S ++ [T]) (S ++ [T]) S O np no vi vc (.map (some b)) vt vb vq
  mp : Mp Tryd.prog 146 W b M
  bs : own b = .sem
  row : TRow W (Is own (.use T.1 T.2.1)) (Is own .byt) u Lu
  all : ∀ e n, wfU e n → ∃ u L, TRow W (Is own (.use e n)) (Is own .byt) u L ∧ L.map (·.1) = byUse S e n ∧ ((ukey e n, u) ∈ M ∨ ((∀ p ∈ M, p.1 ≠ ukey e n) ∧ u = .slice none 0 0 ∧ L = []))
theorem SeJ.carry {W W' : World} {own own' : Owner} {gl : Nat} {P : List Pr} {S O : List Tup} {T : Tup} {b : Nat} {M : List (Value × Value)} {u : Value} {Lu : List TE} {np no : Nat} {vi vc vt vb vq : Value} {R : Nat → Prop}
    (x : LgX W' own' gl P S (S ++ [T]) (S ++ [T]) S O np no vi vc (.map (some b)) vt vb vq) (k : But R W W') (hr : ∀ c, own c = .sem ∨ own c = .byt ∨ (∃ e n, own c = .use e n) → ¬ R c) (he : Ext own own')
    (mp : Mp Tryd.prog 146 W b M) (bs : own b = .sem) (row : TRow W (Is own (.use T.1 T.2.1)) (Is own .byt) u Lu)
    (all : ∀ e n, wfU e n → ∃ u L, TRow W (Is own (.use e n)) (Is own .byt) u L ∧ L.map (·.1) = byUse S e n ∧ ((ukey e n, u) ∈ M ∨ ((∀ p ∈ M, p.1 ≠ ukey e n) ∧ u = .slice none 0 0 ∧ L = []))) : SeJ W' own' gl P S O T b M u Lu np no vi vc vt vb vq := by
  refine ⟨x, mp.but k (hr b (.inl bs)), he.is (by decide) b bs, row.but k (fun j hj => hr j (.inr (.inr ⟨_, _, hj⟩))) (fun j hj => hr j (.inr (.inl hj))) (he.is (by simp)) (he.is (by decide)), fun e n hU => ?_⟩
  obtain ⟨u, L, h1, h2⟩ := all e n hU
  exact ⟨u, L, h1.but k (fun j hj => hr j (.inr (.inr ⟨_, _, hj⟩))) (fun j hj => hr j (.inr (.inl hj))) (he.is (by simp)) (he.is (by decide)), h2⟩
theorem sealed_end {w : World} {own : Owner} {gl g0 : Nat} {T : Tup} {va' vs' : Value} {W5 W6 : World} {own5 : Owner} {P : List Pr} {S O : List Tup} {b : Nat} {M M' : List (Value × Value)} {u v4 : Value} {Lu : List TE} {np no : Nat} {vi vc vt5 v2 vq : Value}
    (hs : SeI w own gl g0 T va' vs' W5 own5) (hj : SeJ W5 own5 gl P S O T b M u Lu np no vi vc vt5 v2 vq) (hnp : np = P.length) (hno : no = O.length) (hlm : Lu.map (·.1) = byUse S T.1 T.2.1)
    (h1 : Mp Tryd.prog 146 W6 b M') (h2 : (ukey T.1 T.2.1, v4) ∈ M') (h3 : ∀ k r, k ≠ ukey T.1 T.2.1 → ((k, r) ∈ M' ↔ (k, r) ∈ M)) (h4 : But (fun c => u.ownBlock = some c ∨ c = b) W5 W6) (h5 : W6.ownsRow 0 148 15 v4 (Lu.length + 1) (Lu.flatMap tc ++ tcells T va' vs'))
    (h6 : v4.ownBlock = u.ownBlock ∨ ∃ k, v4.ownBlock = some k ∧ W5.heap.size ≤ k) (h7 : ∀ k, v4.ownBlock = some k → k < W6.heap.size) : LgTo w own gl P (S ++ [T]) O W6 := by
  have hx := hj.x
  have hru : ∀ c, u.ownBlock = some c → own5 c = .use T.1 T.2.1 := fun c hc => hj.row.row.inF c hc
  have hv4n : ∀ k, v4.ownBlock = some k → own5 k = .none ∨ own5 k = .use T.1 T.2.1 := fun k hk => by
    rcases h6 with h6 | ⟨j, hj, hj2⟩
    · rw [h6] at hk; exact .inr (hru k hk)
    · rw [hj] at hk; cases hk; exact .inl (hx.top _ hj2)
  have he6 : Ext own5 (tagV own5 v4 (.use T.1 T.2.1)) := Ext.tagV hv4n
  have hng : ∀ c, own5 c ≠ .none → own5 c ≠ .sem → own5 c ≠ .use T.1 T.2.1 → ¬ (u.ownBlock = some c ∨ c = b) := fun c _ e2 e3 e4 => by
    rcases e4 with e4 | e4
    · exact e3 (hru c e4)
    · exact e2 (by rw [e4]; exact hj.bs)
  have hrow : TRow W6 (Is (tagV own5 v4 (.use T.1 T.2.1)) (.use T.1 T.2.1)) (Is (tagV own5 v4 (.use T.1 T.2.1)) .byt) v4 (Lu ++ [(T, va', vs')]) := by
    refine ⟨⟨?_, fun k hk => tagV_own hk⟩, fun e he => ?_⟩
    · rw [List.length_append, List.length_singleton, List.flatMap_append]
      rw [show ([(T, va', vs')] : List TE).flatMap tc = tcells T va' vs' by simp [tc]]
      exact h5
    · have hby : ∀ j, Is own5 .byt j → ¬ (u.ownBlock = some j ∨ j = b) := fun j hj => hng j (by rw [show own5 j = .byt from hj]; decide) (by rw [show own5 j = .byt from hj]; decide) (by rw [show own5 j = .byt from hj]; simp)
      rcases List.mem_append.1 he with he | he
      · exact ((hj.row.el e he).but h4 hby).mono (he6.is (by decide))
      · rw [show e = (T, va', vs') by simpa using he]
        exact (hs.tv.but h4 hby).mono (he6.is (by decide))
  have hx6 := hx.swapM h4 (fun c e1 _ e3 e4 => hng c e1 e3 (e4 _ _)) he6 ((hx.top.grow h4.size).tagV h7) (hx.blk.but h4 (hng gl (by rw [hx.tag]; decide) (by rw [hx.tag]; decide) (by rw [hx.tag]; simp))) (SeM.put hj.all h1 h2 h3 h4 (fun c hc => by
    rcases hc with hc | ⟨e, n, hc, hne⟩
    · exact hng c (by rw [hc]; decide) (by rw [hc]; decide) (by rw [hc]; simp)
    · exact hng c (by rw [hc]; simp) (by rw [hc]; simp) (by rw [hc]; intro e9; cases e9; exact hne ⟨rfl, rfl⟩)) he6 (he6.is (by decide) b hj.bs) hlm hrow)
  refine ⟨But.then hs.but h4 (fun c hc e => ?_), tagV own5 v4 (.use T.1 T.2.1), hs.ext.trans he6, hs.fresh.tagV (fun k hk => ?_), vi, vc, .map (some b), vt5, v2, vq, ?_⟩
  · intro hcn
    have hq : own5 c = own c := by
      by_cases hq : own5 c = own c
      · exact hq
      · exact absurd (hs.fresh c hq) (by omega)
    rcases e with e | e
    · have := hru c e; rw [hq, hcn] at this; cases this
    · have := hj.bs; rw [← e, hq, hcn] at this; cases this
  · rcases h6 with h6 | ⟨j, hj, hj2⟩
    · rw [h6] at hk
      by_cases hq : own5 k = own k
      · right; rw [← hq]; exact hru k hk
      · left; exact hs.fresh k hq
    · rw [hj] at hk; cases hk; left; exact Nat.le_trans hs.but.size hj2
  · rw [← hnp, ← hno]
    exact ⟨hx6.top, hx6.tag, hx6.blk, hx6.inm, hx6.cla, hx6.sem, hx6.twi, hx6.blo, hx6.str.grow T⟩
end Go.Proofs.YtmlladpmecclbaaDoor
/- ghost: firstStray. -/
namespace Go.Proofs.YtmlladpmecclbaaDoor
open Go.RowKit

theorem TRow.at {w w' : World} {Fr G : Nat → Prop} {v : Value} {L : List TE} (h : TRow w Fr G v L) (k : Grow w w') : ∃ ao cap, v = .slice ao L.length cap ∧ ∀ i e, L[i]? = some e → ∃ g, ao = some ⟨g, 0, none⟩ ∧ Tv w' G e.1 e.2.1 e.2.2 ∧ ∀ c u, (tc e)[c]? = some u → w'.cell? ((⟨g, i * 15, none⟩ : Addr).add c) = some u := by
  obtain ⟨ao, cap, rfl, hrow⟩ := h.row.shape
  refine ⟨ao, cap, rfl, fun i e hi => ?_⟩
  have hlt : i < L.length := (List.getElem?_eq_some_iff.1 hi).1
  obtain ⟨g, rfl, _, hg, hc⟩ := hrow (by omega)
  have he := h.el e (List.mem_of_getElem? hi)
  refine ⟨g, rfl, he.then k, fun c u hu => ?_⟩
  have e1 : (⟨g, i * 15, none⟩ : Addr).add c = ⟨g, i * 15 + c, none⟩ := by simp [Addr.add]
  rw [e1]
  exact (World.cell?_of_block (k.block g hg (fun h => h))).trans (hc _ _ (flat_at L (fun e he => tc_len (h.el e he)) i e c u hi hu))
theorem mem_byUse {S : List Tup} {T : Tup} : T ∈ S ↔ ∃ s ∈ byUse S T.1 T.2.1, s.2.2.1 = T.2.2.1 ∧ s.2.2.2 = T.2.2.2 := by
  constructor
  · intro h
    exact ⟨T, List.mem_filter.2 ⟨h, by simp⟩, rfl, rfl⟩
  · rintro ⟨s, h1, h2, h3⟩
    obtain ⟨h4, h5⟩ := List.mem_filter.1 h1
    simp only [decide_eq_true_eq] at h5
    obtain ⟨a, b, c, d⟩ := s
    obtain ⟨a', b', c', d'⟩ := T
    simp only at h2 h3 h5
    obtain ⟨h5, h6⟩ := h5
    subst h2 h3 h5 h6
    exact h4
/-- What a search tells. -/
def Strays (S : List Tup) (L : List TE) (r : Value) : Prop :=
  (∃ (i : Nat) (e0 : TE), L[i]? = some e0 ∧ r = .tuple #[.agg (tc e0).toArray, .bool true] ∧ e0.1 ∉ S ∧ ∀ (j : Nat) (e1 : TE), j < i → L[j]? = some e1 → e1.1 ∈ S) ∨ (r = .tuple #[.agg zeroT.toArray, .bool false] ∧ ∀ e1 : TE, e1 ∈ L → e1.1 ∈ S)
theorem results_struct_tmp {P : Program} {fn : Func} {p u : Tmp} {ty : TypeId} (h : fn.results = #[.cell p ty, .tmp u]) (tmps : Array Value) (w : World) (g : Nat) (t : TypeId) (cs : Array Value) (d : TypeDesc) (v : Value)
    (hp : tmps.getD p undef = .pointer (some ⟨g, 0, none⟩)) (hg : w.heap[g]? = some (.cells cs t (0, 0))) (hu : P.underlying ty = some d) (hd : (match d with | .struct _ | .array _ _ => true | _ => false) = true) (hi : (P.info? ty).map (·.size) = some cs.size) (hv : tmps.getD u undef = v) :
    (results fn tmps).run P w = .ok (.tuple #[.agg cs, v]) w := by
  have hp' : tmps[p]?.getD undef = .pointer (some ⟨g, 0, none⟩) := by simpa using hp
  have hv' : tmps[u]?.getD undef = v := by simpa using hv
  simp [results, h, hp', hv', asAddr, run_loadVar_row w g t ty cs (0, 0) d hg hu hd hi]
end Go.Proofs.YtmlladpmecclbaaDoor
/- ghost: Opened, Forged, Twice, New; a log that is none. -/
namespace Go.Proofs.YtmlladpmecclbaaDoor
open Go.RowKit

theorem note_nil (v d : Value) (w : World) (hd : ∃ D, d = .agg D) : Calls Tryd.prog 51 #[.pointer none, v, d] w fun e w' => e = .returned (.tuple #[]) ∧ Grow w w' := by
  obtain ⟨D, rfl⟩ := hd
  go_enter Tryd.func51, Tryd.ntmps51
  go_wp2
  exact bodyPost_ret (results_none rfl _ _ _) rfl ⟨rfl, (But.refl _ w).alloc _⟩
def logZ : List Value := [.int .i64 0, .map none, .slice none 0 0, .map none, .slice none 0 0, .slice none 0 0, .int .i64 0, .slice none 0 0]
theorem new_lg {w : World} (own : Owner) (ht : Top w own) {g : Nat} (hg : g = w.heap.size) : Lg (w.alloc (.cells logZ.toArray 57)) (tagAt own g .log) g [] [] [] := by
  have hb : Blk (w.alloc (.cells logZ.toArray 57)) g 57 logZ := Blk.new hg.symm
  refine ⟨.map none, .slice none 0 0, .map none, .slice none 0 0, .slice none 0 0, .slice none 0 0, (ht.grow (by simp)).tagAt hb.lt, tagAt_own, hb, ⟨[], .inl ⟨rfl, rfl⟩, fun D hD => ?_⟩, ⟨[], BRow.nil _ _ _, .inl ⟨rfl, fun j hj => absurd hj (Nat.not_lt_zero _)⟩⟩, ⟨[], .inl ⟨rfl, rfl⟩, fun e n hU => ⟨.slice none 0 0, [], TRow.nil _ _ _, rfl, .inr ⟨fun p hp => absurd hp List.not_mem_nil, rfl, rfl⟩⟩⟩,
    ⟨[], TRow.nil _ _ _, .inl ⟨rfl, fun j hj => absurd hj (Nat.not_lt_zero _)⟩⟩, ⟨[], BRow.nil _ _ _, rfl⟩, ⟨[], TRow.nil _ _ _, rfl, Nat.le_refl _⟩⟩
  show ∀ p : Value × Value, p ∈ [] → p.1 ≠ dkey D
  exact fun p hp => absurd hp List.not_mem_nil
theorem new_any {w : World} (own : Owner) (ht : Top w own) : Calls Tryd.prog 7 #[] w fun e w' => ∃ g, e = .returned (.pointer (some ⟨g, 0, none⟩)) ∧ g = w.heap.size ∧ Grow w w' ∧ Lg w' (tagAt own g .log) g [] [] [] := by
  have hz : ∀ w' : World, (Instr.build 57 #[]).run Tryd.prog w' = .ok (.agg logZ.toArray) w' := fun w' => run_build w' _ _ _ (by kernel_rfl)
  have HZ := Hid.mk' hz
  have HL := Hid.mk' (new_lg own ht rfl)
  obtain ⟨Z, hZ⟩ : ∃ Z, Z = logZ.toArray := ⟨_, rfl⟩
  rw [← hZ] at HZ HL
  clear hz hZ ht
  go_enter Tryd.func7, Tryd.ntmps7
  go_wp2_with (first
    | (refine wpList_build_run rfl _ [] rfl [] rfl (.agg Z) (HZ.out _) ?_)
    | fail)
  go_ret
  exact ⟨_, rfl, rfl, (But.refl _ w).alloc _, HL.out⟩
theorem bz (w : World) : (Instr.build 148 #[]).run Tryd.prog w = .ok (.agg zeroT.toArray) w := run_build w _ _ _ (by kernel_rfl)
theorem zeroT_one : ∀ u ∈ zeroT, u.oneCell' = true := by decide
theorem zeroT_len : zeroT.length = 15 := rfl
def noStray : Value := .tuple #[.agg zeroT.toArray, .bool false]
theorem results_two {P : Program} {fn : Func} {p q u : Tmp} {ty ty2 : TypeId} (h : fn.results = #[.cell p ty, .cell q ty2, .tmp u]) (tmps : Array Value) (w : World) (g g2 : Nat) (t t2 : TypeId) (cs cs2 : Array Value) (d d2 : TypeDesc) (v : Value)
    (hp : tmps.getD p undef = .pointer (some ⟨g, 0, none⟩)) (hg : w.heap[g]? = some (.cells cs t (0, 0))) (hu : P.underlying ty = some d) (hd : (match d with | .struct _ | .array _ _ => true | _ => false) = true) (hi : (P.info? ty).map (·.size) = some cs.size)
    (hp2 : tmps.getD q undef = .pointer (some ⟨g2, 0, none⟩)) (hg2 : w.heap[g2]? = some (.cells cs2 t2 (0, 0))) (hu2 : P.underlying ty2 = some d2) (hd2 : (match d2 with | .struct _ | .array _ _ => true | _ => false) = true) (hi2 : (P.info? ty2).map (·.size) = some cs2.size) (hv : tmps.getD u undef = v) :
    (results fn tmps).run P w = .ok (.tuple #[.agg cs, .agg cs2, v]) w := by
  have hp' : tmps[p]?.getD undef = .pointer (some ⟨g, 0, none⟩) := by simpa using hp
  have hq' : tmps[q]?.getD undef = .pointer (some ⟨g2, 0, none⟩) := by simpa using hp2
  have hv' : tmps[u]?.getD undef = v := by simpa using hv
  simp [results, h, hp', hq', hv', asAddr, run_loadVar_row w g t ty cs (0, 0) d hg hu hd hi, run_loadVar_row w g2 t2 ty2 cs2 (0, 0) d2 hg2 hu2 hd2 hi2]
def noTwice : Value := .tuple #[.agg zeroT.toArray, .agg zeroT.toArray, .bool false]
def tz : Tup := (0, List.replicate 12 0, [], [])
theorem tz_cells : tcells tz (.slice none 0 0) (.slice none 0 0) = zeroT := rfl
theorem tz_tv (w : World) : Tv w (fun _ => False) tz (.slice none 0 0) (.slice none 0 0) := ⟨by decide, rfl, by decide, ⟨Bs.nil w, fun h => absurd h (by decide)⟩, ⟨Bs.nil w, fun h => absurd h (by decide)⟩⟩
/-- What Forged tells. -/
def ForgedIs (S O : List Tup) (T : Tup) (ok : Bool) : Prop := (ok = true ∧ (outOf S O).head? = some T) ∨ (ok = false ∧ outOf S O = [] ∧ T = tz)
theorem strays_first {S : List Tup} {L : List TE} {i : Nat} {e0 : TE} (h : L[i]? = some e0) (hn : e0.1 ∉ S) (ha : ∀ (j : Nat) (e1 : TE), j < i → L[j]? = some e1 → e1.1 ∈ S) : (outOf S (L.map (·.1))).head? = some e0.1 := by
  unfold outOf
  rw [List.head?_filter, List.find?_eq_some_iff_getElem]
  have hi := (List.getElem?_eq_some_iff.1 h).1
  refine ⟨by simpa using hn, i, by simpa using hi, ?_, fun j hj => ?_⟩
  · have := (List.getElem?_eq_some_iff.1 h).2
    simp [this]
  · have hjl : j < L.length := by omega
    have := ha j L[j] hj (List.getElem?_eq_getElem hjl)
    simp [this]
theorem strays_none {S : List Tup} {L : List TE} (h : ∀ e1 : TE, e1 ∈ L → e1.1 ∈ S) : outOf S (L.map (·.1)) = [] := by
  unfold outOf
  rw [List.filter_eq_nil_iff]
  intro o ho
  obtain ⟨e, he, rfl⟩ := List.mem_map.1 ho
  simpa using h e he
def Sized (L : List Tup) : Prop := ∀ t ∈ L, t.2.2.1.length ≤ 140737488355328 ∧ t.2.2.2.length ≤ 140737488355328
end Go.Proofs.YtmlladpmecclbaaDoor
/- ghost: Twice. -/
namespace Go.Proofs.YtmlladpmecclbaaDoor
open Go.RowKit

/-- A whole tuple is stored, as a turn of a chain. -/
theorem turn_store15 {w : World} {o : Oper} {ρ : Operand → Value} {K' : Value → World → Prop} {x y : Operand} (ho : o.op = .store 148 x y) {g : Nat} {cs L : List Value} (hx : ρ x = .pointer (some ⟨g, 0, none⟩)) (hy : ρ y = .agg cs.toArray) (hl : cs.length = 15) (h1 : ∀ v ∈ cs, v.oneCell' = true) (hb : Blk w g 148 L) (hL : L.length = 15)
    (hk : ∀ w', Blk w' g 148 cs → But (· = g) w w' → K' undef w') : ∃ v' w', ((execOp ρ o).run Tryd.prog w = .ok (.value v') w' ∨ ((execOp ρ o).run Tryd.prog w = .ok .skip w' ∧ v' = undef)) ∧ K' v' w' := by
  obtain ⟨w', hr, hb2, hb3⟩ := run_storeVar_at w g 0 148 148 [] L [] cs (by simpa using hb) rfl (by rw [hL, hl]) (by rw [iT, hl]) h1
  refine ⟨undef, w', .inr ⟨?_, rfl⟩, hk w' (by simpa using hb2) hb3⟩
  unfold execOp
  simp only [ho, hx, hy, Instr.storeAt, Instr.sureAddr, Sem.run_bind, Sem.run_pure, Result.andThen_ok, hr]
/-- What Twice tells. -/
structure TwiceIs (w w' : World) (S : List Tup) (e : Value) : Prop where
  ex : (e = noTwice ∧ Fst2 (tk S) S.length none) ∨ ∃ i j va vs ua us, e = .tuple #[.agg (tcells (S.getD i t0) va vs).toArray, .agg (tcells (S.getD j t0) ua us).toArray, .bool true] ∧ Fst2 (tk S) S.length (some (i, j)) ∧ TNew w' w.heap.size (S.getD i t0) va vs ∧ TNew w' w.heap.size (S.getD j t0) ua us
theorem TNew.but {R : Nat → Prop} {w w' : World} {base : Nat} {T : Tup} {va vs : Value} (h : TNew w base T va vs) (k : But R w w') (hr : ∀ j, base ≤ j → ¬ R j) : TNew w' base T va vs :=
  ⟨h.ep, h.nl, h.nt, h.aad.but k (fun j hj _ => hr j (h.aad.ge j hj).1), h.sea.but k (fun j hj _ => hr j (h.sea.ge j hj).1), h.dif⟩
theorem TNew.mono {w : World} {base base' : Nat} {T : Tup} {va vs : Value} (h : TNew w base T va vs) (hb : base' ≤ base) : TNew w base' T va vs := ⟨h.ep, h.nl, h.nt, h.aad.mono hb, h.sea.mono hb, h.dif⟩
end Go.Proofs.YtmlladpmecclbaaDoor
/- ghost: Opened. -/
namespace Go.Proofs.YtmlladpmecclbaaDoor
open Go.RowKit

theorem strays1 {S : List Tup} {e : TE} {r : Value} (h : Strays S [e] r) : (e.1 ∈ S → r = .tuple #[.agg zeroT.toArray, .bool false]) ∧ (e.1 ∉ S → r = .tuple #[.agg (tc e).toArray, .bool true]) := by
  rcases h with ⟨i, e0, h1, h2, h3, h4⟩ | ⟨h1, h2⟩
  · have : i = 0 := by
      have := (List.getElem?_eq_some_iff.1 h1).1
      simp at this; exact this
    subst this
    obtain rfl : e = e0 := by simpa using h1
    exact ⟨fun h => absurd h h3, fun _ => h2⟩
  · exact ⟨fun _ => h1, fun h => absurd (h2 e List.mem_cons_self) h⟩
theorem wpList_row1 {ops : Array Oper} {rest : List Oper} {o : Oper} {a : Act} {w : World} {Q : Exit → Act → World → Prop} (hgd : o.guard = none) {t e : TypeId} {s bytes : Nat} {z : Value} (ht : Tryd.prog.underlying t = some (.slice e)) (hinf : (Tryd.prog.info? e).map (fun i => (i.zero, i.size, i.bytes)) = some (some z, s, bytes)) (hs0 : 0 < s) (hs1 : s ≤ 1000)
    {x : Operand} (ho : o.op = .buildSlice t 1 #[(0, x)]) {v : Value} (hx : a.eval x = v) (hv : v.cells.size = s) (h : wpList Tryd.prog ops Q rest (a.put o.dst (.slice (some ⟨w.heap.size, 0, none⟩) 1 1)) (w.alloc (.cells v.cells e))) : wpList Tryd.prog ops Q (o :: rest) a w :=
  wpList_plain hgd fun _ hK => by
    unfold Oper.wp
    rw [exec_row1 ht hinf hs0 hs1 ho hx hv]
    exact hK _ _ h
theorem outOf_in {S O : List Tup} {T : Tup} (h : T ∈ S) : outOf S (O ++ [T]) = outOf S O := by
  unfold outOf; rw [List.filter_append]; simp [h]
theorem outOf_out {S O : List Tup} {T : Tup} (h : T ∉ S) : outOf S (O ++ [T]) = outOf S O ++ [T] := by
  unfold outOf; rw [List.filter_append]; simp [h]
theorem LgV.swapS {R : Nat → Prop} {w w' : World} {own own' : Owner} {gl : Nat} {P : List Pr} {S O O' : List Tup} {nh no no' : Nat} {vi vc vm vt vb vs vs' : Value} (h : LgV w own gl P S O nh no vi vc vm vt vb vs) (k : But R w w') (hr : ∀ b, own b ≠ .none → own b ≠ .log → own b ≠ .str → ¬ R b) (he : Ext own own') (ht : Top w' own')
    (hb : Blk w' gl 57 (lgc nh no' vi vc vm vt vb vs')) (hn : Str w' own' vs' S O') : LgV w' own' gl P S O' nh no' vi vc vm vt vb vs' := by
  have hx : ∀ {b t}, own b = t → t ≠ .none → t ≠ .log → t ≠ .str → ¬ R b := fun h1 h2 h3 h4 => hr _ (by rw [h1]; exact h2) (by rw [h1]; exact h3) (by rw [h1]; exact h4)
  refine ⟨ht, he.is (by decide) gl h.tag, hb, h.inm.but k ?_ he, h.cla.but k ?_ he, h.sem.but k ?_ he, h.twi.but k ?_ he, h.blo.but k ?_ he, hn⟩
  all_goals intro b hb
  · rcases hb with hb | hb <;> exact hx hb (by decide) (by decide) (by decide)
  · rcases hb with hb | hb <;> exact hx hb (by decide) (by decide) (by decide)
  · rcases hb with hb | hb | ⟨e, n, hb⟩
    · exact hx hb (by decide) (by decide) (by decide)
    · exact hx hb (by decide) (by decide) (by decide)
    · exact hx hb (by simp) (by simp) (by simp)
  · rcases hb with hb | hb <;> exact hx hb (by decide) (by decide) (by decide)
  · rcases hb with hb | hb <;> exact hx hb (by decide) (by decide) (by decide)
/-- The end of Opened where a stray was kept. -/
theorem opened_end {w W W6 : World} {own : Owner} {gl : Nat} {P : List Pr} {S O : List Tup} {T : Tup} {vi vc vm vt vb vq v2 va vs : Value} {L : List TE} (hwW : But (fun b => own b ≠ .none) w W) (h : LgV W own gl P S O P.length (O.length + 1) vi vc vm vt vb vq) (hL : TRow W (Is own .str) (Is own .byt) vq L) (hLo : outOf S (L.map (·.1)) = outOf S O) (hLl : L.length ≤ O.length) (hT : T ∉ S)
    (hnew : TNew W6 W.heap.size T va vs) (k : But (fun b => vq.ownBlock = some b ∨ b = gl) W W6) (hrow : W6.ownsRow 0 148 15 v2 (L.length + 1) (L.flatMap tc ++ tcells T va vs)) (hat : v2.ownBlock = vq.ownBlock ∨ ∃ j, v2.ownBlock = some j ∧ W.heap.size ≤ j) (hlt : ∀ j, v2.ownBlock = some j → j < W6.heap.size)
    (hdv : ∀ j, va.ownBlock = some j ∨ vs.ownBlock = some j → v2.ownBlock ≠ some j) (hb : Blk W6 gl 57 (lgc P.length (O.length + 1) vi vc vm vt vb v2)) : LgTo w own gl P S (O ++ [T]) W6 := by
  have hrq : ∀ b, vq.ownBlock = some b → own b = .str := fun b hb => hL.row.inF b hb
  have hge : ∀ j, va.ownBlock = some j ∨ vs.ownBlock = some j → W.heap.size ≤ j ∧ j < W6.heap.size := fun j hj => by
    rcases hj with hj | hj
    · exact hnew.aad.ge j hj
    · exact hnew.sea.ge j hj
  have h2n : ∀ j, v2.ownBlock = some j → own j = .none ∨ own j = .str := fun j hj => by
    rcases hat with h3 | ⟨i, hi, hi2⟩
    · rw [h3] at hj; exact .inr (hrq j hj)
    · rw [hi] at hj; cases hj; exact .inl (h.top _ hi2)
  obtain ⟨o1, ho1⟩ : ∃ o, o = tagV own v2 .str := ⟨_, rfl⟩
  have e1 : Ext own o1 := by rw [ho1]; exact Ext.tagV h2n
  have f1 : Fresh W own o1 := by
    rw [ho1]
    refine (Fresh.refl W own).tagV (fun j hj => ?_)
    rcases hat with h3 | ⟨i, hi, hi2⟩
    · rw [h3] at hj; exact .inr (hrq j hj)
    · rw [hi] at hj; cases hj; exact .inl hi2
  have t1 : Top W6 o1 := by rw [ho1]; exact (h.top.grow k.size).tagV hlt
  have hv2o : ∀ j, v2.ownBlock = some j → o1 j = .str := fun j hj => by rw [ho1]; exact tagV_own hj
  have n1 : ∀ j, va.ownBlock = some j ∨ vs.ownBlock = some j → o1 j = .none := fun j hj => by
    have h9 : own j = .none := h.top j (hge j hj).1
    rw [ho1]
    unfold tagV
    cases hq : v2.ownBlock with
    | none => exact h9
    | some i =>
      show tagAt own i .str j = .none
      unfold tagAt
      rw [if_neg (fun e => hdv j hj (by rw [hq, e]))]
      exact h9
  obtain ⟨o2, ho2⟩ : ∃ o, o = tagV (tagV o1 va .byt) vs .byt := ⟨_, rfl⟩
  have hnt : ∀ j, vs.ownBlock = some j → tagV o1 va .byt j = .none ∨ tagV o1 va .byt j = .byt := fun j hj => by
    unfold tagV
    cases hq : va.ownBlock with
    | none => exact .inl (n1 j (.inr hj))
    | some i =>
      show tagAt o1 i .byt j = .none ∨ tagAt o1 i .byt j = .byt
      unfold tagAt
      split
      · exact .inr rfl
      · exact .inl (n1 j (.inr hj))
  have ea : Ext o1 (tagV o1 va .byt) := Ext.tagV (fun j hj => .inl (n1 j (.inl hj)))
  have es : Ext (tagV o1 va .byt) o2 := by rw [ho2]; exact Ext.tagV hnt
  have e2 : Ext o1 o2 := ea.trans es
  have f2 : Fresh W own o2 := by rw [ho2]; exact (f1.tagV (fun j hj => .inl (hge j (.inl hj)).1)).tagV (fun j hj => .inl (hge j (.inr hj)).1)
  have t2 : Top W6 o2 := by rw [ho2]; exact (t1.tagV (fun j hj => (hge j (.inl hj)).2)).tagV (fun j hj => (hge j (.inr hj)).2)
  have hng : ∀ c, own c ≠ .none → own c ≠ .log → own c ≠ .str → ¬ (vq.ownBlock = some c ∨ c = gl) := fun c _ h2 h3 h4 => by
    rcases h4 with h4 | h4
    · exact h3 (hrq c h4)
    · exact h2 (by rw [h4]; exact h.tag)
  have hby : ∀ j, Is own .byt j → ¬ (vq.ownBlock = some j ∨ j = gl) := fun j hj => hng j (by rw [show own j = .byt from hj]; decide) (by rw [show own j = .byt from hj]; decide) (by rw [show own j = .byt from hj]; decide)
  have htv : Tv W6 (Is o2 .byt) T va vs := ⟨hnew.ep, hnew.nl, hnew.nt, ⟨hnew.aad.bs, fun _ j hj => es.is (t := .byt) (by decide) j (tagV_own hj)⟩, ⟨hnew.sea.bs, fun _ j hj => by show o2 j = .byt; rw [ho2]; exact tagV_own hj⟩⟩
  refine ⟨But.trans hwW (k.mono (fun b _ e => ?_)), o2, e1.trans e2, fun b hb => Nat.le_trans hwW.size (f2 b hb), vi, vc, vm, vt, vb, v2, ?_⟩
  · rcases e with e | e
    · rw [hrq b e]; decide
    · rw [e, h.tag]; decide
  · rw [List.length_append, List.length_singleton]
    refine h.swapS k hng (e1.trans e2) t2 hb ⟨L ++ [(T, va, vs)], ⟨⟨?_, fun j hj => e2.is (t := .str) (by decide) j (hv2o j hj)⟩, fun e he => ?_⟩, ?_, ?_⟩
    · rw [List.length_append, List.length_singleton, List.flatMap_append, show ([(T, va, vs)] : List TE).flatMap tc = tcells T va vs by simp [tc]]
      exact hrow
    · rcases List.mem_append.1 he with he | he
      · exact ((hL.el e he).but k hby).mono ((e1.trans e2).is (by decide))
      · rw [show e = (T, va, vs) by simpa using he]; exact htv
    · rw [List.map_append, outOf_out hT, ← hLo]
      show outOf S (L.map (·.1) ++ [T]) = _
      rw [outOf_out hT]
    · rw [List.length_append, List.length_append]; simp; exact hLl
end Go.Proofs.YtmlladpmecclbaaDoor
/- ghost: Blocks. -/
namespace Go.Proofs.YtmlladpmecclbaaDoor
open Go.RowKit

/-- A new row of new slices, no two of which share memory. -/
structure NewRow (w : World) (base : Nat) (v : Value) (L : List BE) : Prop where
  own : w.ownsRow base 22 1 v L.length (L.map (·.1))
  el : ∀ e ∈ L, Ow w base e.1 e.2
  dif : L.Pairwise (fun a b => ∀ k, a.1.ownBlock = some k → b.1.ownBlock ≠ some k)
  row : ∀ e ∈ L, ∀ k, v.ownBlock = some k → e.1.ownBlock ≠ some k
theorem NewRow.but {R : Nat → Prop} {w w' : World} {base : Nat} {v : Value} {L : List BE} (h : NewRow w base v L) (k : But R w w') (hr : ∀ j, base ≤ j → j < w.heap.size → ¬ R j) : NewRow w' base v L :=
  ⟨ownsRow_but h.own k (fun j hj => hr j (h.own.lt j hj).1 (h.own.lt j hj).2), fun e he => (h.el e he).but k (fun j hj _ => hr j ((h.el e he).ge j hj).1 ((h.el e he).ge j hj).2), h.dif, h.row⟩
theorem NewRow.nil (w : World) (base : Nat) : NewRow w base (.slice none 0 0) [] := ⟨World.ownsRow_nil _ _ _ _, fun _ he => absurd he List.not_mem_nil, .nil, fun _ he => absurd he List.not_mem_nil⟩
end Go.Proofs.YtmlladpmecclbaaDoor
/- SHA-256 by the document, over words of 32 bits; and what the model's operations on them are. -/
namespace Go.Proofs.YtmlladpmecclbaaDoor
open Go.RowKit

/-- A word as a number. -/
def nt (x : BitVec 32) : Nat := x.toNat
theorem nt_lt (x : BitVec 32) : nt x < 4294967296 := x.isLt
theorem nt_of (n : Nat) (h : n < 4294967296) : nt (BitVec.ofNat 32 n) = n := by unfold nt; simp; omega
theorem nt_inj {x y : BitVec 32} (h : nt x = nt y) : x = y := BitVec.eq_of_toNat_eq h

theorem add_nt (a b : BitVec 32) : IntKind.u32.wrap ((nt a : Int) + (nt b : Int)) = (nt (a + b) : Int) := by
  rw [IntKind.wrap_u32']; unfold nt; rw [BitVec.toNat_add]; omega
theorem xor_nt (a b : BitVec 32) : bits .xor .u32 (nt a : Int) (nt b : Int) = (nt (a ^^^ b) : Int) := by
  rw [u32_xor_nat _ _ (nt_lt a) (nt_lt b)]; unfold nt; rw [BitVec.toNat_xor]
theorem and_nt (a b : BitVec 32) : bits .and .u32 (nt a : Int) (nt b : Int) = (nt (a &&& b) : Int) := by
  rw [u32_and_nat _ _ (nt_lt a) (nt_lt b)]; unfold nt; rw [BitVec.toNat_and]
theorem or_nt (a b : BitVec 32) : bits .or .u32 (nt a : Int) (nt b : Int) = (nt (a ||| b) : Int) := by
  rw [u32_or_nat _ _ (nt_lt a) (nt_lt b)]; unfold nt; rw [BitVec.toNat_or]
theorem shr_nt (a : BitVec 32) (k : Nat) : (nt a : Int) / 2 ^ k = (nt (a >>> k) : Int) := by
  unfold nt; rw [BitVec.toNat_ushiftRight, Nat.shiftRight_eq_div_pow]; simp
theorem shl_nt (a : BitVec 32) (k : Nat) : IntKind.u32.wrap ((nt a : Int) * 2 ^ k) = (nt (a <<< k) : Int) := by
  rw [IntKind.wrap_u32']; unfold nt; rw [BitVec.toNat_shiftLeft, Nat.shiftLeft_eq]
  have e : ((a.toNat : Int) * 2 ^ k) = ((a.toNat * 2 ^ k : Nat) : Int) := by simp
  rw [e]; omega

theorem add_ntm (a b : BitVec 32) : ((nt a : Int) + (nt b : Int)) % 4294967296 = (nt (a + b) : Int) := by rw [← add_nt, IntKind.wrap_u32']
theorem shl_ntm (a : BitVec 32) (k : Nat) : (nt a : Int) * 2 ^ k % 4294967296 = (nt (a <<< k) : Int) := by rw [← shl_nt, IntKind.wrap_u32']
theorem rot_nt (x : BitVec 32) (n : Nat) (h : n ≤ 31) : bits .or .u32 ((nt x : Int) / 2 ^ n) ((nt x : Int) * 2 ^ (32 - n) % 4294967296) = (nt (x.rotateRight n) : Int) := by
  rw [shr_nt, shl_ntm, or_nt]
  have e : n % 32 = n := Nat.mod_eq_of_lt (by omega)
  unfold BitVec.rotateRight BitVec.rotateRightAux
  rw [e]

/-- The words of the rounds. -/
def kws : List (BitVec 32) := [1116352408, 1899447441, 3049323471, 3921009573, 961987163, 1508970993, 2453635748, 2870763221, 3624381080, 310598401, 607225278, 1426881987, 1925078388, 2162078206, 2614888103, 3248222580, 3835390401, 4022224774, 264347078, 604807628, 770255983, 1249150122, 1555081692, 1996064986, 2554220882, 2821834349, 2952996808, 3210313671, 3336571891, 3584528711, 113926993, 338241895, 666307205, 773529912, 1294757372, 1396182291, 1695183700, 1986661051, 2177026350, 2456956037, 2730485921, 2820302411, 3259730800, 3345764771, 3516065817, 3600352804, 4094571909, 275423344, 430227734, 506948616, 659060556, 883997877, 958139571, 1322822218, 1537002063, 1747873779, 1955562222, 2024104815, 2227730452, 2361852424, 2428436474, 2756734187, 3204031479, 3329325298]
/-- The first state. -/
def hws : List (BitVec 32) := [1779033703, 3144134277, 1013904242, 2773480762, 1359893119, 2600822924, 528734635, 1541459225]
def sg0 (x : BitVec 32) : BitVec 32 := x.rotateRight 7 ^^^ x.rotateRight 18 ^^^ x >>> 3
def sg1 (x : BitVec 32) : BitVec 32 := x.rotateRight 17 ^^^ x.rotateRight 19 ^^^ x >>> 10
/-- The word t of a block's schedule, of those ahead of it. -/
def nextw (m : Nat → BitVec 32) (l : List (BitVec 32)) (t : Nat) : BitVec 32 :=
  if t < 16 then m t else l.getD (t - 16) 0 + sg0 (l.getD (t - 15) 0) + l.getD (t - 7) 0 + sg1 (l.getD (t - 2) 0)
/-- The first t words of a block's schedule. -/
def sched (m : Nat → BitVec 32) : Nat → List (BitVec 32)
  | 0 => []
  | t + 1 => sched m t ++ [nextw m (sched m t) t]
theorem sched_len (m : Nat → BitVec 32) (t : Nat) : (sched m t).length = t := by
  induction t with
  | zero => rfl
  | succ t ih => simp [sched, ih]
/-- One round. -/
def rnd (k w : BitVec 32) : List (BitVec 32) → List (BitVec 32)
  | [a, b, c, d, e, f, g, h] =>
    let t1 := h + (e.rotateRight 6 ^^^ e.rotateRight 11 ^^^ e.rotateRight 25) + ((e &&& f) ^^^ (~~~e &&& g)) + k + w
    let t2 := (a.rotateRight 2 ^^^ a.rotateRight 13 ^^^ a.rotateRight 22) + ((a &&& b) ^^^ (a &&& c) ^^^ (b &&& c))
    [t1 + t2, a, b, c, d + t1, e, f, g]
  | l => l
/-- The state behind the first t rounds. -/
def rnds (m : Nat → BitVec 32) (v : List (BitVec 32)) : Nat → List (BitVec 32)
  | 0 => v
  | t + 1 => rnd (kws.getD t 0) ((sched m 64).getD t 0) (rnds m v t)
/-- What a block makes of the state. -/
def comp (m : Nat → BitVec 32) (h : List (BitVec 32)) : List (BitVec 32) := List.zipWith (· + ·) h (rnds m h 64)
/-- The words of the block at byte p of padded bytes. -/
def blkw (z : List Nat) (p : Nat) (t : Nat) : BitVec 32 :=
  BitVec.ofNat 32 (z.getD (p + 4 * t) 0 * 16777216 + z.getD (p + 4 * t + 1) 0 * 65536 + z.getD (p + 4 * t + 2) 0 * 256 + z.getD (p + 4 * t + 3) 0)
/-- The state behind the first k blocks. -/
def hst (z : List Nat) : Nat → List (BitVec 32)
  | 0 => hws
  | k + 1 => comp (blkw z (64 * k)) (hst z k)
/-- A state's bytes. -/
def outb (h : List (BitVec 32)) : List Nat := (List.range 32).map fun i => nt (h.getD (i / 4) 0) / 2 ^ (24 - 8 * (i % 4)) % 256
/-- What is padded of n bytes: how many noughts. -/
def noughts (n : Nat) : Nat := (119 - n % 64) % 64
def be8 (n : Nat) : List Nat := (List.range 8).map fun i => n / 2 ^ (56 - 8 * i) % 256
def padded (xs : List Nat) : List Nat := xs ++ [128] ++ List.replicate (noughts xs.length) 0 ++ be8 (8 * xs.length)
/-- The digest. -/
def digest (xs : List Nat) : List Nat := outb (hst (padded xs) ((padded xs).length / 64))
theorem padded_len (xs : List Nat) : (padded xs).length % 64 = 0 := by
  simp [padded, be8, noughts]; omega
theorem padded_lt (xs : List Nat) (h : ∀ z ∈ xs, z < 256) : ∀ z ∈ padded xs, z < 256 := by
  intro z hz
  simp only [padded, List.mem_append, List.mem_singleton, List.mem_replicate, be8, List.mem_map, List.mem_range] at hz
  rcases hz with ((hz | hz) | hz) | ⟨i, _, hz⟩
  · exact h z hz
  · omega
  · omega
  · omega
theorem rnd_len (k w : BitVec 32) (l : List (BitVec 32)) (h : l.length = 8) : (rnd k w l).length = 8 := by
  match l, h with
  | [_, _, _, _, _, _, _, _], _ => rfl
theorem rnds_len (m : Nat → BitVec 32) (v : List (BitVec 32)) (t : Nat) (h : v.length = 8) : (rnds m v t).length = 8 := by
  induction t with
  | zero => exact h
  | succ t ih => exact rnd_len _ _ _ ih
theorem comp_len (m : Nat → BitVec 32) (h : List (BitVec 32)) (hl : h.length = 8) : (comp m h).length = 8 := by
  simp [comp, hl, rnds_len m h 64 hl]
theorem hst_len (z : List Nat) (k : Nat) : (hst z k).length = 8 := by
  induction k with
  | zero => rfl
  | succ k ih => exact comp_len _ _ ih

/-- Words as values, and a row of them. -/
abbrev u32s (l : List (BitVec 32)) : List Value := l.map fun x => Value.int .u32 (nt x : Int)
def Ar (w : World) (g : Nat) (T : TypeId) (l : List (BitVec 32)) : Prop := w.heap[g]? = some (.cells (u32s l).toArray T (0, 0))
theorem Ar.cell {w : World} {g : Nat} {T : TypeId} {l : List (BitVec 32)} (h : Ar w g T l) (i : Nat) (hi : i < l.length) : w.cell? ⟨g, i, none⟩ = some (.int .u32 (nt (l.getD i 0) : Int)) := by
  rw [cell_of_row w g i _ _ _ h]
  simp [u32s, hi]
theorem Ar.free {w : World} {g : Nat} {T : TypeId} {l : List (BitVec 32)} (h : Ar w g T l) (i : Nat) : w.frozen? ⟨g, i, none⟩ = false := frozen_of_row w g i _ _ h
theorem Ar.set {w : World} {g : Nat} {T : TypeId} {l : List (BitVec 32)} (h : Ar w g T l) (i : Nat) (y : BitVec 32) : Ar (w.setCell ⟨g, i, none⟩ (.int .u32 (nt y : Int))) g T (l.set i y) := by
  unfold Ar at h ⊢
  rw [heap_setCell_same w g i _ _ _ h]
  simp [u32s, List.map_set]
theorem Ar.but {R : Nat → Prop} {w w' : World} {g : Nat} {T : TypeId} {l : List (BitVec 32)} (h : Ar w g T l) (k : But R w w') (hr : ¬ R g) : Ar w' g T l := (k.block g (lt_of_block h) hr).trans h
theorem Ar.lt {w : World} {g : Nat} {T : TypeId} {l : List (BitVec 32)} (h : Ar w g T l) : g < w.heap.size := lt_of_block h
end Go.Proofs.YtmlladpmecclbaaDoor
/- The reference's digest: rotr, words, Padded. -/
namespace Go.Proofs.YtmlladpmecclbaaDoor
open Go.RowKit

theorem rotr_any (x : BitVec 32) (n : Nat) (h1 : 1 ≤ n) (h2 : n ≤ 31) (w : World) :
    Calls Tryd.prog 56 #[.int .u32 (nt x), .int .u64 n] w fun e w' => e = .returned (.int .u32 (nt (x.rotateRight n))) ∧ w' = w := by
  have hx := nt_lt x
  have hr := rot_nt x n h2
  go_enter Tryd.func56, Tryd.ntmps56
  go_wp2
  go_ret
  refine ⟨?_, rfl⟩
  rw [← hr]; rfl

theorem u32s_one (l : List (BitVec 32)) : (u32s l).toArray.all (·.oneCell') = true := by
  rw [Array.all_eq_true_iff_forall_mem]
  intro u hu
  simp only [List.mem_toArray, u32s, List.mem_map] at hu
  obtain ⟨x, _, rfl⟩ := hu
  rfl
theorem size_u32s (l : List (BitVec 32)) : (u32s l).toArray.size = l.length := by simp [u32s]

/-- A whole array of words into a variable. -/
theorem wpList_store_arr {w : World} {ops : Array Oper} {rest : List Oper} {o : Oper} {a : Act} {Q : Exit → Act → World → Prop} (hgd : o.guard = none) (ty : TypeId) (x y : Operand) (ho : o.op = .store ty x y)
    (g : Nat) (l : List (BitVec 32)) (hx : a.eval x = .pointer (some ⟨g, 0, none⟩)) (hy : a.eval y = .agg (u32s l).toArray)
    (t : TypeId) (old : Array Value) (hg : w.heap[g]? = some (.cells old t (0, 0))) (hi : (Tryd.prog.info? ty).map (·.size) = some l.length) (hold : old.size = l.length)
    (h : ∀ w', Ar w' g t l → w.grownBy w' (some g) → wpList Tryd.prog ops Q rest (a.put o.dst undef) w') : wpList Tryd.prog ops Q (o :: rest) a w := by
  refine wpList_store_row hgd ty x y ho g _ hx hy t old hg (by rw [size_u32s]; exact hi) (by rw [size_u32s]; exact hold) (u32s_one l) ?_
  exact h _ (setRow_heap w g old _ t (0, 0) hg) ⟨rfl, rfl, rfl, by simp [World.setRow], fun k _ hk => setRow_other w g k _ (fun e => hk (by rw [e]))⟩

set_option maxRecDepth 100000 in
set_option maxHeartbeats 1000000 in
theorem words_any (w : World) :
    Calls Tryd.prog 54 #[] w fun e w' => e = .returned (.agg (u32s kws).toArray) ∧ But (fun _ => False) w w' := by
  have hi : (Tryd.prog.info? 100).map (·.size) = some 64 := by kernel_rfl
  go_enter Tryd.func54, Tryd.ntmps54
  go_wp2_with (first
    | (refine wpList_build rfl _ _ rfl (by kernel_rfl) ?_; rw [show (Tryd.prog.built 100 _).getD #[] = (u32s kws).toArray by kernel_rfl])
    | (refine wpList_store_arr rfl _ _ _ rfl w.heap.size kws rfl rfl 100 _ (heap_alloc_new w _) hi rfl ?_; intro w1 har hgrow))
  refine bodyPost_ret (results_cell_row rfl _ _ w.heap.size _ _ _ _ rfl har Tryd.underlying100 rfl (by rw [size_u32s]; exact hi)) rfl ⟨rfl, ?_⟩
  exact ((But.refl _ w).alloc _).grown hgrow (fun k e hk => by cases e; exact absurd hk (Nat.lt_irrefl _))

theorem Ow.row {w : World} {base : Nat} {v : Value} {zs : List Nat} (h : Ow w base v zs) {n : Nat} (hn : zs.length = n) : w.ownsRow base 5 1 v n (u8s zs) := by
  rw [← hn]; exact h.own

set_option maxHeartbeats 1000000 in
set_option maxRecDepth 100000 in
set_option maxRecDepth 100000 in
theorem padded_any {v : Value} {xs : List Nat} {w : World} (hv : Bs w v xs) (hl : xs.length ≤ 1048576) :
    Calls Tryd.prog 55 #[v] w fun e w' => ∃ v', e = .returned v' ∧ Ow w' w.heap.size v' (padded xs) ∧ Below w.heap.size w w' := by
  obtain ⟨i0, hi, hz0, hz1, hz2⟩ := info_parts u8info
  have HV : Hid (Bs w v xs) := hv
  obtain ⟨ao, cap, rfl, hnone, _⟩ := hv.gen
  clear hv
  obtain ⟨n, hn⟩ : ∃ n, xs.length = n := ⟨_, rfl⟩
  rw [hn] at hl hnone HV ⊢
  have HN : Hid (xs.length = n) := hn
  clear hn
  go_enter Tryd.func55, Tryd.ntmps55
  go_wp2_with (first
    | (at_make; refine wpList_make_own _ rfl _ _ 22 rfl w.heap.size 5 i0 (.int .u8 0) 1 Tryd.underlying22 hi hz0 hz1 .i64 .i64 _ (n + 72) rfl rfl (by go_num) (by rw [hz2]; omega) (by unfold maxLen; omega) (Nat.le_refl _) ?_; intro w1 hown hgrow)
    | (at_builtin; refine wpList_append_fits_any _ rfl _ _ 22 rfl w.heap.size 5 i0 1 Tryd.underlying22 hi hz1 w.heap.size 0 (n + 72) [] rfl hown ao n cap (u8s xs) rfl (by simp [u8s]; exact HN.out) hnone ((HV.out.grown hgrow (by simp)).cells) (u8s_one xs) (by omega) ?_; rw [Nat.zero_add]; intro w2 hown2 hgrow2)
    | (at_builtin; refine wpList_append_fits _ rfl _ _ 22 rfl w.heap.size 5 i0 1 Tryd.underlying22 hi hz1 w.heap.size n (n + 72) _ rfl (hown2.alloc _) ⟨w2.heap.size, 0, none⟩ 1 1 (u8s [128]) rfl rfl (cell_new _ _ _) (u8s_one _) (by omega) ?_; intro w3 hown3 hgrow3))
  have b1 := (Below.refl w.heap.size w).grown hgrow (Nat.le_refl _) (by simp)
  have s1 := b1.size
  have b2 := b1.grown hgrow2 s1 (by simp)
  have b3 := (b2.alloc b2.size (.cells #[.int .u8 128] 5)).grown hgrow3 (by simp; have := b2.size; omega) (by simp)
  have HO3 : Hid (Ow w3 w.heap.size (.slice (some ⟨w.heap.size, 0, none⟩) (n + 1) (n + 72)) (xs ++ [128] ++ List.replicate 0 0)) := by
    refine ⟨?_, by simp [HN.out]; omega, ?_⟩
    · intro z hz
      simp at hz
      rcases hz with hz | rfl
      · exact HV.out.1 z hz
      · decide
    · have e : (xs ++ [128] ++ List.replicate 0 0).length = n + 1 := by simp [HN.out]
      rw [e]
      simpa [u8s] using hown3
  clear hown hown2 hown3 hgrow hgrow2 hgrow3 b1 b2
  have HNo : Hid ((n + 1 + noughts n) % 64 = 56 ∧ noughts n < 64 ∧ ∀ j, j < noughts n → (n + 1 + j) % 64 ≠ 56) := by
    refine ⟨?_, ?_, fun j hj => ?_⟩ <;> unfold noughts at * <;> omega
  go_loopw [3] (fun o wr => ∃ j : Nat, j ≤ noughts n ∧ o = .slice (some ⟨w.heap.size, 0, none⟩) (n + 1 + j) (n + 72) ∧ Ow wr w.heap.size (.slice (some ⟨w.heap.size, 0, none⟩) (n + 1 + j) (n + 72)) (xs ++ [128] ++ List.replicate j 0) ∧ Below w.heap.size w wr)
    (fun o _ => match o with | .slice _ k _ => n + 1 + noughts n - k | _ => 0)
  case atStart => exact ⟨0, Nat.zero_le _, rfl, HO3.out, b3⟩
  case round =>
    obtain ⟨j, hj, rfl, ho, hbel⟩ := hrel
    have hsz := hbel.size
    have hlen : (xs ++ [128] ++ List.replicate j 0).length = n + 1 + j := by rw [List.length_append, List.length_append, List.length_replicate, HN.out]; rfl
    have hno := HNo.out
    by_cases hlt : j < noughts n
    · have hq : ¬ ((n + 1 + j : Nat) : Int) % 64 = 56 := by have := hno.2.2 j hlt; omega
      have HO : Hid (Ow wr w.heap.size (.slice (some ⟨w.heap.size, 0, none⟩) (n + 1 + j) (n + 72)) (xs ++ [128] ++ List.replicate j 0)) := ho
      have HR := Hid.mk' (ho.row hlen)
      have hfit : n + 1 + j + 1 ≤ n + 72 := by omega
      have HJ : Hid (n + 1 + j + 1 = n + 1 + (j + 1)) := by show _ = _; omega
      have HQ : Hid (n + 1 + noughts n - (n + 1 + (j + 1)) < n + 1 + noughts n - (n + 1 + j)) := by show _ < _; omega
      clear ho hno
      generalize n + 1 + j = q at *
      go_wp2_with (at_builtin; refine wpList_append_fits _ rfl _ _ 22 rfl w.heap.size 5 i0 1 Tryd.underlying22 hi hz1 w.heap.size q (n + 72) _ rfl (HR.out.alloc _) ⟨wr.heap.size, 0, none⟩ 1 1 [.int .u8 (0 : Nat)] rfl rfl (cell_new _ _ _) (u8s_one [0]) hfit ?_; intro w4 hown4 hgrow4)
      have hj' := HJ.out
      refine ⟨⟨j + 1, by omega, by rw [hj'], ?_, (hbel.alloc hsz _).grown hgrow4 (by simp; omega) (by simp)⟩, by simp only [hj']; exact HQ.out⟩
      have hp := HO.out.push (y := 0) (by decide) (by rw [hlen]; omega) (by rw [hlen]; exact hown4)
      have e : xs ++ [128] ++ List.replicate (j + 1) 0 = xs ++ [128] ++ List.replicate j 0 ++ [0] := by rw [List.replicate_succ', ← List.append_assoc]
      rw [e, ← hj']
      exact hp
    · have hjn : j = noughts n := by omega
      subst hjn
      obtain ⟨wm, hwm⟩ : ∃ wm, wm = wr := ⟨_, rfl⟩
      subst hwm
      have hq : ((n + 1 + noughts n : Nat) : Int) % 64 = 56 := by omega
      have HO : Hid (Ow wm w.heap.size (.slice (some ⟨w.heap.size, 0, none⟩) (n + 1 + noughts n) (n + 72)) (xs ++ [128] ++ List.replicate (noughts n) 0)) := ho
      have hfit : n + 1 + noughts n + 8 ≤ n + 72 := by omega
      have HP : Hid (padded xs = xs ++ [128] ++ List.replicate (noughts n) 0 ++ be8 (8 * n)) := by show _ = _; unfold padded; rw [HN.out]
      generalize xs ++ [128] ++ List.replicate (noughts n) 0 = X at *
      clear ho hno HNo hlt hj
      generalize n + 1 + noughts n = q at *
      go_wp2
      clear hq
      go_loopw [3, 5] (fun o i wr => ∃ k : Nat, k ≤ 8 ∧ i = .int .i64 k ∧ o = .slice (some ⟨w.heap.size, 0, none⟩) (q + k) (n + 72) ∧ Ow wr w.heap.size (.slice (some ⟨w.heap.size, 0, none⟩) (q + k) (n + 72)) (X ++ (be8 (8 * n)).take k) ∧ Below w.heap.size w wr)
        (fun _ i _ => 8 - (intOf i).toNat)
      case atStart => exact ⟨0, by decide, rfl, rfl, by simpa using HO.out, hbel⟩
      case round =>
        obtain ⟨k, hk, rfl, rfl, ho, hbr⟩ := hrel
        have hsr := hbr.size
        by_cases hlt : k < 8
        · have hlen2 : (X ++ (be8 (8 * n)).take k).length = q + k := by rw [List.length_append, hlen, List.length_take]; simp [be8]; omega
          have HO2 := Hid.mk' ho
          have HR2 := Hid.mk' (ho.row hlen2)
          have hfit2 : q + k + 1 ≤ n + 72 := by omega
          clear ho
          obtain ⟨y, hy⟩ : ∃ y, 8 * n / 2 ^ (56 - 8 * k) % 256 = y := ⟨_, rfl⟩
          have hyi : (8 * (n : Int)) / 2 ^ (56 - 8 * k) % 256 = (y : Int) := by
            have e : (8 * (n : Int)) / 2 ^ (56 - 8 * k) % 256 = ((8 * n / 2 ^ (56 - 8 * k) % 256 : Nat) : Int) := by simp
            rw [e, hy]
          have hy1 : y < 256 := by omega
          have HT : Hid (X ++ (be8 (8 * n)).take (k + 1) = X ++ (be8 (8 * n)).take k ++ [y]) := by
            show _ = _
            have hb : (be8 (8 * n)).getD k 0 = y := by rw [← hy]; simp [be8, hlt]
            rw [take_next' _ k (by simp [be8]; exact hlt), hb, List.append_assoc]
          clear hy
          go_wp2_with (at_builtin; refine wpList_append_fits _ rfl _ _ 22 rfl w.heap.size 5 i0 1 Tryd.underlying22 hi hz1 w.heap.size (q + k) (n + 72) _ rfl (HR2.out.alloc _) ⟨wr.heap.size, 0, none⟩ 1 1 [.int .u8 (y : Nat)] rfl rfl (cell_new _ _ _) (u8s_one [y]) hfit2 ?_; intro w4 hown4 hgrow4)
          refine ⟨⟨k + 1, by omega, by go_num, by rw [Nat.add_assoc], ?_, (hbr.alloc hsr _).grown hgrow4 (by simp; omega) (by simp)⟩, by simp [intOf]; omega⟩
          have hp := HO2.out.push (y := y) hy1 (by rw [hlen2]; omega) (by rw [hlen2]; exact hown4)
          rw [HT.out, ← Nat.add_assoc]
          exact hp
        · have hk8 : k = 8 := by omega
          subst hk8
          have e8 : (be8 (8 * n)).take 8 = be8 (8 * n) := List.take_of_length_le (by simp [be8])
          rw [e8, ← HP.out] at ho
          have HO2 := Hid.mk' ho
          clear ho
          go_wp2
          go_ret
          exact ⟨_, rfl, HO2.out, hbr⟩
end Go.Proofs.YtmlladpmecclbaaDoor
/- The program's rotr. -/
namespace Go.Proofs.YtmlladpmecclbaaDoor
open Go.RowKit

theorem rotl_any (x : BitVec 32) (n : Nat) (h1 : 1 ≤ n) (h2 : n ≤ 31) (w : World) :
    Calls Tryd.prog 76 #[.int .u32 (nt x), .int .i64 (-(n : Int))] w fun e w' => e = .returned (.int .u32 (nt (x.rotateRight n))) ∧ w' = w := by
  have hx := nt_lt x
  obtain ⟨m, hm⟩ : ∃ m, m = 32 - n := ⟨_, rfl⟩
  have hs : bits .and .u64 (IntKind.u64.wrap (-(n : Int))) 31 = (m : Int) := by
    rw [show IntKind.u64.wrap (-(n : Int)) = (-(n : Int)) % 18446744073709551616 by simp [IntKind.wrap, IntKind.bits, IntKind.signed], show (-(n : Int)) % 18446744073709551616 = ((18446744073709551616 - n : Nat) : Int) by omega]
    have e := u64_and_nat (18446744073709551616 - n) 31 (by omega) (by decide)
    have e2 : (18446744073709551616 - n) &&& 31 = m := by
      rw [show (31 : Nat) = 2 ^ 5 - 1 by rfl, Nat.and_two_pow_sub_one_eq_mod]; omega
    rw [e2] at e
    exact e
  have hr := rot_nt x n h2
  have hm1 : 1 ≤ m := by omega
  have hm2 : m ≤ 31 := by omega
  have hnm : n = 32 - m := by omega
  rw [← hm] at hr
  have hq : (32 - (m : Int)) = (n : Int) := by omega
  have hr2 : bits .or .u32 ((nt x : Int) * 2 ^ m % 4294967296) ((nt x : Int) / 2 ^ n) = (nt (x.rotateRight n) : Int) := by
    rw [← hr, shl_ntm, shr_nt, or_nt, or_nt, BitVec.or_comm]
  clear hm hnm
  go_enter Tryd.func76, Tryd.ntmps76
  go_wp2
  go_ret
  refine ⟨?_, rfl⟩
  rw [← hr2]; rfl
theorem srotr_any (x : BitVec 32) (n : Nat) (h1 : 1 ≤ n) (h2 : n ≤ 31) (w : World) :
    Calls Tryd.prog 75 #[.int .u32 (nt x), .int .i64 n] w fun e w' => e = .returned (.int .u32 (nt (x.rotateRight n))) ∧ w' = w := by
  have H := Hid.mk' (rotl_any x n h1 h2 w)
  go_enter Tryd.func75, Tryd.ntmps75
  go_wp2_with (refine Calls.mono H.out ?_; rintro e w' ⟨rfl, rfl⟩)
  go_ret
  exact ⟨rfl, rfl⟩
end Go.Proofs.YtmlladpmecclbaaDoor
/- The program's spread. -/
namespace Go.Proofs.YtmlladpmecclbaaDoor
open Go.RowKit

theorem or4 (x0 x1 x2 x3 : Nat) (h0 : x0 < 256) (h1 : x1 < 256) (h2 : x2 < 256) (h3 : x3 < 256) :
    bits .or .u32 (bits .or .u32 (bits .or .u32 ((x0 : Int) * 16777216) ((x1 : Int) * 65536)) ((x2 : Int) * 256)) (x3 : Int) = ((x0 * 16777216 + x1 * 65536 + x2 * 256 + x3 : Nat) : Int) := by
  have e0 : ((x0 : Int) * 16777216) = ((x0 * 16777216 : Nat) : Int) := by omega
  have e1 : ((x1 : Int) * 65536) = ((x1 * 65536 : Nat) : Int) := by omega
  have e2 : ((x2 : Int) * 256) = ((x2 * 256 : Nat) : Int) := by omega
  have a1 : x0 * 16777216 ||| x1 * 65536 = x0 * 16777216 + x1 * 65536 := by
    have := Nat.two_pow_add_eq_or_of_lt (i := 24) (b := x1 * 65536) (by omega) x0
    rw [Nat.mul_comm] at this; exact this.symm
  have a2 : (x0 * 16777216 + x1 * 65536) ||| x2 * 256 = x0 * 16777216 + x1 * 65536 + x2 * 256 := by
    have := Nat.two_pow_add_eq_or_of_lt (i := 16) (b := x2 * 256) (by omega) (x0 * 256 + x1)
    rw [show 2 ^ 16 * (x0 * 256 + x1) = x0 * 16777216 + x1 * 65536 by omega] at this; exact this.symm
  have a3 : (x0 * 16777216 + x1 * 65536 + x2 * 256) ||| x3 = x0 * 16777216 + x1 * 65536 + x2 * 256 + x3 := by
    have := Nat.two_pow_add_eq_or_of_lt (i := 8) (b := x3) (by omega) (x0 * 65536 + x1 * 256 + x2)
    rw [show 2 ^ 8 * (x0 * 65536 + x1 * 256 + x2) = x0 * 16777216 + x1 * 65536 + x2 * 256 by omega] at this; exact this.symm
  rw [e0, e1, e2, u32_or_nat _ _ (by omega) (by omega), a1, u32_or_nat _ _ (by omega) (by omega), a2, u32_or_nat _ _ (by omega) (by omega), a3]

theorem set_sched (m : Nat → BitVec 32) (t : Nat) (h : t < 64) (y : BitVec 32) (hy : nextw m (sched m t) t = y) : (sched m t ++ List.replicate (64 - t) 0).set t y = sched m (t + 1) ++ List.replicate (64 - (t + 1)) 0 := by
  have e1 : 64 - t = (64 - (t + 1)) + 1 := by omega
  rw [e1, List.replicate_succ, List.set_append_right _ _ (by rw [sched_len]; omega), sched_len, Nat.sub_self, List.set_cons_zero]
  show _ = sched m t ++ [nextw m (sched m t) t] ++ _
  rw [hy, List.append_assoc]; rfl
theorem getD_sched (m : Nat → BitVec 32) (t j : Nat) (h : j < t) : (sched m t ++ List.replicate (64 - t) 0).getD j 0 = (sched m t).getD j 0 := by
  simp [List.getD, List.getElem?_append_left (show j < (sched m t).length by rw [sched_len]; exact h)]
theorem shr3_nt (x : BitVec 32) : (nt x : Int) / (8 : Int) = (nt (x >>> 3) : Int) := shr_nt x 3
theorem shr10_nt (x : BitVec 32) : (nt x : Int) / (1024 : Int) = (nt (x >>> 10) : Int) := shr_nt x 10
theorem Ar.drew {w : World} {g : Nat} {T : TypeId} {l : List (BitVec 32)} (h : Ar w g T l) : Ar w.drew g T l := h

theorem cut64 (g off l : Nat) (i : Int) (hi : i = (l : Int)) (hl : l < 64) (w : World) :
    (Instr.sliceAt 113 (.pointer (some ⟨g, off, none⟩)) (some (.int .i64 i)) none none).run Tryd.prog w = .ok (.slice (some ⟨g, off + l, none⟩) (64 - l) (64 - l)) w := by
  subst hi
  have ha : Tryd.prog.arrayLen 113 = 64 := by kernel_rfl
  have he : Tryd.prog.elem 113 = 5 := by kernel_rfl
  have hu : Tryd.prog.underlying 113 = some (.array (Tryd.prog.arrayLen 113) (Tryd.prog.elem 113)) := by kernel_rfl
  have hs : (sizeOf 5).run Tryd.prog w = .ok 1 w := by kernel_rfl
  rw [run_sliceAt_array_l w _ _ hu .i64 (l : Int) (by omega) (by rw [ha]; omega), he, hs, ha]
  have hne : ¬ (64 = l) := by omega
  simp [Result.andThen, slicedAt, hne, Addr.add]
theorem Ar.new {w : World} {g : Nat} {T : TypeId} {l : List (BitVec 32)} (h : w.heap.size = g) : Ar (w.alloc (.cells (u32s l).toArray T)) g T l := by
  subst h; exact heap_alloc_new _ _

set_option maxRecDepth 100000 in
set_option maxHeartbeats 4000000 in
theorem spread_any {w : World} {g : Nat} {C : Array Value} {T : TypeId} {z : List Nat} (hg : w.heap[g]? = some (.cells C T (0, 0))) (hc : ∀ i, i < 64 → C[8 + i]? = some (.int .u8 (z.getD i 0 : Nat))) (hlt : ∀ i, z.getD i 0 < 256) :
    Calls Tryd.prog 74 #[.pointer (some ⟨g, 8, none⟩)] w fun e w' => e = .returned (.agg (u32s (sched (blkw z 0) 64)).toArray) ∧ But (fun _ => False) w w' := by
  have hi47 : (Tryd.prog.info? 100).map (·.size) = some 64 := by kernel_rfl
  have hgl := lt_of_block hg
  have HG := Hid.mk' hg
  have HC := Hid.mk' hc
  have HLT := Hid.mk' hlt
  clear hg hc hlt
  go_enter Tryd.func74, Tryd.ntmps74
  go_wp2
  have hx0 : Ar (w.alloc (.cells (u32s (List.replicate 64 0)).toArray 100)) w.heap.size 100 (List.replicate 64 0) := heap_alloc_new _ _
  have hx1 : Ar ((w.alloc (.cells (u32s (List.replicate 64 0)).toArray 100)).alloc (.cells (u32s (List.replicate 64 0)).toArray 100)) (w.heap.size + 1) 100 (sched (blkw z 0) 0 ++ List.replicate (64 - 0) 0) := Ar.new (by simp)
  have HX0 := Hid.mk' (hx0.but ((But.refl (fun _ => False) _).alloc (.cells (u32s (List.replicate 64 0)).toArray 100)) (fun h => h))
  have HX1 := Hid.mk' hx1
  have HB0 := Hid.mk' (((But.refl (fun _ => False) w).alloc (.cells (u32s (List.replicate 64 0)).toArray 100)).alloc (.cells (u32s (List.replicate 64 0)).toArray 100))
  clear hx0 hx1
  go_loopw [11] (fun i wr => ∃ t : Nat, t ≤ 16 ∧ i = .int .i64 t ∧ Ar wr (w.heap.size + 1) 100 (sched (blkw z 0) t ++ List.replicate (64 - t) 0) ∧ Ar wr w.heap.size 100 (List.replicate 64 0) ∧ But (fun _ => False) w wr) (fun i _ => 16 - (intOf i).toNat)
  case atStart => exact ⟨0, by decide, rfl, HX1.out, HX0.out, HB0.out⟩
  case round =>
    obtain ⟨t, ht, rfl, har, har0, hbt⟩ := hrel
    have hsz := hbt.size
    have hlen : (sched (blkw z 0) t ++ List.replicate (64 - t) 0).length = 64 := by rw [List.length_append, sched_len, List.length_replicate]; omega
    by_cases h16 : t < 16
    · have f : ∀ j, j < 4 → wr.cell? ⟨g, 8 + 4 * t + j, none⟩ = some (.int .u8 (z.getD (4 * t + j) 0 : Nat)) := fun j hj => by
        rw [cell_of_row wr g _ _ _ _ ((hbt.block g (by omega) (fun h => h)).trans HG.out), Nat.add_assoc]
        exact HC.out _ (by omega)
      have f0 := f 0 (by decide)
      have f1 := f 1 (by decide)
      have f2 := f 2 (by decide)
      have f3 := f 3 (by decide)
      have b0 := HLT.out (4 * t + 0)
      have b1 := HLT.out (4 * t + 1)
      have b2 := HLT.out (4 * t + 2)
      have b3 := HLT.out (4 * t + 3)
      have HW : Hid (blkw z 0 t = BitVec.ofNat 32 (z.getD (4 * t + 0) 0 * 16777216 + z.getD (4 * t + 1) 0 * 65536 + z.getD (4 * t + 2) 0 * 256 + z.getD (4 * t + 3) 0)) := by
        show _ = _; unfold blkw; simp only [Nat.zero_add, Nat.add_zero]
      have hold := har.cell t (by omega)
      have hfr := har.free t
      have HAR := Hid.mk' har
      have HAR0 := Hid.mk' har0
      generalize z.getD (4 * t + 0) 0 = x0 at *
      generalize z.getD (4 * t + 1) 0 = x1 at *
      generalize z.getD (4 * t + 2) 0 = x2 at *
      generalize z.getD (4 * t + 3) 0 = x3 at *
      rw [Nat.add_zero] at f0
      generalize nt ((sched (blkw z 0) t ++ List.replicate (64 - t) 0).getD t 0) = old at *
      clear f har har0
      have hsl := cut64 g 8 (4 * t) (4 * (t : Int)) (by omega) (by omega)
      have HO := Hid.mk' (or4 x0 x1 x2 x3 b0 b1 b2 b3)
      have hv : bits .or .u32 (bits .or .u32 (bits .or .u32 ((x0 : Int) * 16777216) ((x1 : Int) * 65536)) ((x2 : Int) * 256)) (x3 : Int) = (nt (blkw z 0 t) : Int) := by
        rw [HO.out, HW.out, nt_of _ (by omega)]
      have HV := Hid.mk' hv
      clear hv HO
      go_wp2
      have hm4 : 4 ≤ 64 - 4 * t := by omega
      clear hsl
      generalize 64 - 4 * t = M at *
      generalize 8 + 4 * t = q at *
      go_region
      rw [HV.out]
      go_wp2
      refine ⟨⟨t + 1, by omega, by go_num, ?_, ?_, ?_⟩, by simp [intOf]; omega⟩
      · rw [← set_sched (blkw z 0) t (by omega) (blkw z 0 t) (by unfold nextw; rw [if_pos h16])]
        exact (HAR.out.set t _).drew
      · exact HAR0.out.but (((But.refl (· = w.heap.size + 1) wr).setCell (fun _ => rfl) _).drew) (by omega)
      · exact (hbt.setCell (fun h => by have h' : w.heap.size + 1 < w.heap.size := h; omega) _).drew
    · have ht16 : t = 16 := by omega
      have hge : ¬ ((t : Int) < 16) := by omega
      rw [ht16] at har
      have HAR := Hid.mk' har
      have HAR0 := Hid.mk' har0
      have HBT := Hid.mk' hbt
      clear har har0 h16 ht hlen hbt ht16
      obtain ⟨t0, ht0⟩ : ∃ t0, t0 = t := ⟨_, rfl⟩
      rw [← ht0] at hge ⊢
      clear ht0
      obtain ⟨wm, hwm⟩ : ∃ wm, wm = wr := ⟨_, rfl⟩
      subst hwm
      go_wp2
      go_loopw [6] (fun i wr => ∃ t : Nat, 16 ≤ t ∧ t ≤ 64 ∧ i = .int .i64 t ∧ Ar wr (w.heap.size + 1) 100 (sched (blkw z 0) t ++ List.replicate (64 - t) 0) ∧ Ar wr w.heap.size 100 (List.replicate 64 0) ∧ But (fun _ => False) w wr) (fun i _ => 64 - (intOf i).toNat)
      case atStart => exact ⟨16, by decide, by decide, rfl, HAR.out, HAR0.out, HBT.out⟩
      case round =>
        obtain ⟨t, ht16, ht, rfl, har, har0, hbt⟩ := hrel
        have hlen : (sched (blkw z 0) t ++ List.replicate (64 - t) 0).length = 64 := by rw [List.length_append, sched_len, List.length_replicate]; omega
        by_cases h64 : t < 64
        · have g15 : wr.cell? ⟨w.heap.size + 1, t - 15, none⟩ = some (.int .u32 (nt ((sched (blkw z 0) t).getD (t - 15) 0) : Int)) := by rw [har.cell _ (by omega), getD_sched _ _ _ (by omega)]
          have g2 : wr.cell? ⟨w.heap.size + 1, t - 2, none⟩ = some (.int .u32 (nt ((sched (blkw z 0) t).getD (t - 2) 0) : Int)) := by rw [har.cell _ (by omega), getD_sched _ _ _ (by omega)]
          have g16 : wr.cell? ⟨w.heap.size + 1, t - 16, none⟩ = some (.int .u32 (nt ((sched (blkw z 0) t).getD (t - 16) 0) : Int)) := by rw [har.cell _ (by omega), getD_sched _ _ _ (by omega)]
          have g7 : wr.cell? ⟨w.heap.size + 1, t - 7, none⟩ = some (.int .u32 (nt ((sched (blkw z 0) t).getD (t - 7) 0) : Int)) := by rw [har.cell _ (by omega), getD_sched _ _ _ (by omega)]
          have HW : Hid (nextw (blkw z 0) (sched (blkw z 0) t) t = (sched (blkw z 0) t).getD (t - 16) 0 + sg0 ((sched (blkw z 0) t).getD (t - 15) 0) + (sched (blkw z 0) t).getD (t - 7) 0 + sg1 ((sched (blkw z 0) t).getD (t - 2) 0)) := by show _ = _; unfold nextw; rw [if_neg (by omega)]
          have hold := har.cell t (by omega)
          have hfr := har.free t
          have HAR2 := Hid.mk' har
          have HAR02 := Hid.mk' har0
          generalize (sched (blkw z 0) t).getD (t - 15) 0 = y15 at *
          generalize (sched (blkw z 0) t).getD (t - 2) 0 = y2 at *
          generalize (sched (blkw z 0) t).getD (t - 16) 0 = y16 at *
          generalize (sched (blkw z 0) t).getD (t - 7) 0 = y7 at *
          generalize nt ((sched (blkw z 0) t ++ List.replicate (64 - t) 0).getD t 0) = old at *
          have e15 : (t : Int) - 15 = ((t - 15 : Nat) : Int) := by omega
          have e2 : (t : Int) - 2 = ((t - 2 : Nat) : Int) := by omega
          have e16 : (t : Int) - 16 = ((t - 16 : Nat) : Int) := by omega
          have e7 : (t : Int) - 7 = ((t - 7 : Nat) : Int) := by omega
          have l15 : t - 15 < 64 := by omega
          have l2 : t - 2 < 64 := by omega
          have l16 : t - 16 < 64 := by omega
          have l7 : t - 7 < 64 := by omega
          generalize t - 15 = i15 at *
          generalize t - 2 = i2 at *
          generalize t - 16 = i16 at *
          generalize t - 7 = i7 at *
          clear har har0
          have hs0 : bits .xor .u32 (bits .xor .u32 (nt (y15.rotateRight 7) : Int) (nt (y15.rotateRight 18) : Int)) ((nt y15 : Int) / 8) = (nt (sg0 y15) : Int) := by
            rw [shr3_nt, xor_nt, xor_nt]; rfl
          have hs1 : bits .xor .u32 (bits .xor .u32 (nt (y2.rotateRight 17) : Int) (nt (y2.rotateRight 19) : Int)) ((nt y2 : Int) / 1024) = (nt (sg1 y2) : Int) := by
            rw [shr10_nt, xor_nt, xor_nt]; rfl
          have hn15 := nt_lt y15
          have hn2 := nt_lt y2
          go_wp2
          go_quiet (fail)
          go_wp2_with (go_at_call 75; refine Calls.mono (srotr_any _ _ (by decide) (by decide) _) ?_; rintro e w' ⟨rfl, rfl⟩)
          clear hs0 hs1 hn15 hn2 g15 g2
          have HA : Hid (((nt y16 : Int) + (nt (sg0 y15) : Int) + (nt y7 : Int) + (nt (sg1 y2) : Int)) % 4294967296 = (nt (nextw (blkw z 0) (sched (blkw z 0) t) t) : Int)) := by
            show _ = _; rw [HW.out, ← add_ntm, ← add_ntm, ← add_ntm]; omega
          have ha1 := nt_lt y16
          have ha2 := nt_lt (sg0 y15)
          have ha3 := nt_lt y7
          have ha4 := nt_lt (sg1 y2)
          go_region
          rw [HA.out]
          clear HA ha1 ha2 ha3 ha4
          go_wp2
          go_roundw
          case rel =>
            refine ⟨t + 1, by omega, by omega, by go_num, ?_, ?_, ?_⟩
            · rw [← set_sched (blkw z 0) t (by omega) _ rfl]
              exact (show Ar (wr.drewN (nq + 1)) (w.heap.size + 1) 100 _ from HAR2.out).set t _
            · exact HAR02.out.but ((But.refl (· = w.heap.size + 1) wr).drewN.setCell (fun _ => rfl) _) (by omega)
            · exact hbt.drewN.setCell (fun h => by have h' : w.heap.size + 1 < w.heap.size := h; omega) _
          case measure => simp [intOf]; omega
        · obtain rfl : t = 64 := by omega
          have e : sched (blkw z 0) 64 ++ List.replicate (64 - 64) 0 = sched (blkw z 0) 64 := by simp
          rw [e] at har
          have HAR2 := Hid.mk' har
          have HAR02 := Hid.mk' har0
          have hsz := hbt.size
          have HL : Hid ((sched (blkw z 0) 64).length = 64) := sched_len _ _
          clear har har0 h64 ht hlen e
          obtain ⟨L, hL⟩ : ∃ L, L = sched (blkw z 0) 64 := ⟨_, rfl⟩
          rw [← hL] at HAR2 HL
          have HSL := Hid.mk' hL
          clear hL
          have hold : wr.heap[w.heap.size]? = some (.cells (u32s (List.replicate 64 0)).toArray 100 (0, 0)) := HAR02.out
          obtain ⟨C, hC⟩ : ∃ C, C = (u32s L).toArray := ⟨_, rfl⟩
          have HLC : Hid (C.size = 64) := by show _ = _; rw [hC, size_u32s]; exact HL.out
          have HARC : Hid (wr.heap[w.heap.size + 1]? = some (.cells C 100 (0, 0))) := by show _ = _; rw [hC]; exact HAR2.out
          have HOLD := Hid.mk' hold
          have HC' := Hid.mk' hC
          clear hold hC
          have key : ∀ (ops : Array Oper) (rest : List Oper) (o : Oper) (a : Act) (Q : Exit → Act → World → Prop) (x : Operand), o.guard = none → o.op = .load 100 x → a.eval x = .pointer (some ⟨w.heap.size + 1, 0, none⟩) → wpList Tryd.prog ops Q rest (a.put o.dst (.agg C)) wr → wpList Tryd.prog ops Q (o :: rest) a wr :=
            fun ops rest o a Q x h1 h2 h3 h4 => wpList_load_row h1 100 x h2 (w.heap.size + 1) h3 100 C (0, 0) _ HARC.out Tryd.underlying100 rfl (by rw [HLC.out]; exact hi47) h4
          have KEY := Hid.mk' key
          clear key
          go_wp2_with (first
            | (refine KEY.out _ _ _ _ _ _ rfl rfl rfl ?_)
            | (refine wpList_store_arr rfl _ _ _ rfl w.heap.size L rfl (by rw [← HC'.out]; rfl) 100 _ HOLD.out (by rw [HL.out]; exact hi47) (by rw [size_u32s, HL.out]; rfl) ?_; intro w2 har2 hgrow2))
          refine bodyPost_ret (results_cell_row rfl _ _ w.heap.size _ _ _ _ rfl har2 Tryd.underlying100 rfl (by rw [size_u32s, HL.out]; exact hi47)) rfl ⟨by rw [HSL.out], ?_⟩
          exact hbt.grown hgrow2 (fun k e hk => by cases e; exact absurd hk (Nat.lt_irrefl _))
end Go.Proofs.YtmlladpmecclbaaDoor
/- The program's mix. -/
namespace Go.Proofs.YtmlladpmecclbaaDoor
open Go.RowKit

/-- A block whose first cells are words. -/
def Sq (w : World) (g : Nat) (T : TypeId) (l : List (BitVec 32)) (X : List Value) : Prop := w.heap[g]? = some (.cells (u32s l ++ X).toArray T (0, 0))
theorem Sq.cell {w : World} {g : Nat} {T : TypeId} {l : List (BitVec 32)} {X : List Value} (h : Sq w g T l X) (i : Nat) (hi : i < l.length) : w.cell? ⟨g, i, none⟩ = some (.int .u32 (nt (l.getD i 0) : Int)) := by
  rw [cell_of_row w g i _ _ _ h]
  simp [u32s, hi, List.getElem?_append_left]
theorem Sq.free {w : World} {g : Nat} {T : TypeId} {l : List (BitVec 32)} {X : List Value} (h : Sq w g T l X) (i : Nat) : w.frozen? ⟨g, i, none⟩ = false := frozen_of_row w g i _ _ h
theorem Sq.set {w : World} {g : Nat} {T : TypeId} {l : List (BitVec 32)} {X : List Value} (h : Sq w g T l X) (i : Nat) (hi : i < l.length) (y : BitVec 32) : Sq (w.setCell ⟨g, i, none⟩ (.int .u32 (nt y : Int))) g T (l.set i y) X := by
  unfold Sq at h ⊢
  rw [heap_setCell_same w g i _ _ _ h]
  simp [u32s, List.map_set, List.set_append_left, hi]
theorem Sq.but {R : Nat → Prop} {w w' : World} {g : Nat} {T : TypeId} {l : List (BitVec 32)} {X : List Value} (h : Sq w g T l X) (k : But R w w') (hr : ¬ R g) : Sq w' g T l X := (k.block g (lt_of_block h) hr).trans h
theorem Sq.lt {w : World} {g : Nat} {T : TypeId} {l : List (BitVec 32)} {X : List Value} (h : Sq w g T l X) : g < w.heap.size := lt_of_block h

/-- The rounds' words, where the program keeps them. -/
def Kw (w : World) : Prop := ∀ i, i < 64 → w.cell? ⟨2, i, none⟩ = some (.int .u32 (nt (kws.getD i 0) : Int))
theorem Kw.lt {w : World} (h : Kw w) : 2 < w.heap.size := World.block_lt_of_cell? _ _ (h 0 (by decide))
theorem Kw.but {R : Nat → Prop} {w w' : World} (h : Kw w) (k : But R w w') (hr : ¬ R 2) : Kw w' := fun i hi =>
  (World.cell?_of_block (k.block 2 h.lt hr)).trans (h i hi)

theorem not_nt (a : BitVec 32) : (4294967295 : Int) - (nt a : Int) = (nt (~~~a) : Int) := by
  unfold nt; rw [BitVec.toNat_not]; have := a.isLt; omega
theorem zip_take (l v : List (BitVec 32)) (i : Nat) (hl : l.length = 8) (hv : v.length = 8) (hi : i < 8) :
    ((List.zipWith (· + ·) l v).take i ++ l.drop i).set i (l.getD i 0 + v.getD i 0) = (List.zipWith (· + ·) l v).take (i + 1) ++ l.drop (i + 1) := by
  apply List.ext_getElem?
  intro j
  have hz : (List.zipWith (· + ·) l v).length = 8 := by simp [hl, hv]
  rw [List.getElem?_set]
  by_cases hj : i = j
  · subst hj
    rw [if_pos rfl, if_pos (by simp [hl, hv]; omega), List.getElem?_append_left (by simp [hl, hv]; omega), List.getElem?_take_of_lt (by omega)]
    simp [hl, hv, hi]
  · rw [if_neg hj]
    by_cases h2 : j < i
    · rw [List.getElem?_append_left (by simp [hl, hv]; omega), List.getElem?_append_left (by simp [hl, hv]; omega), List.getElem?_take_of_lt h2, List.getElem?_take_of_lt (by omega)]
    · rw [List.getElem?_append_right (by simp [hl, hv]; omega), List.getElem?_append_right (by simp [hl, hv]; omega), List.getElem?_drop, List.getElem?_drop]
      congr 1
      simp [hl, hv]; omega

theorem ones_nt (x : BitVec 32) : bits .xor .u32 (if IntKind.u32.signed = true then -1 else IntKind.u32.max) (nt x : Int) = (nt (~~~x) : Int) := by
  have e : (if IntKind.u32.signed = true then -1 else IntKind.u32.max : Int) = (nt (BitVec.allOnes 32) : Int) := by decide
  rw [e, xor_nt, BitVec.allOnes_xor]
def bs1 (e : BitVec 32) : BitVec 32 := e.rotateRight 6 ^^^ e.rotateRight 11 ^^^ e.rotateRight 25
def bs0 (a : BitVec 32) : BitVec 32 := a.rotateRight 2 ^^^ a.rotateRight 13 ^^^ a.rotateRight 22
def cho (e f g : BitVec 32) : BitVec 32 := (e &&& f) ^^^ (~~~e &&& g)
def maj (a b c : BitVec 32) : BitVec 32 := (a &&& b) ^^^ (a &&& c) ^^^ (b &&& c)
theorem idx_u32 (T n : Nat) (hT : Tryd.prog.underlying T = some (.array n 90)) (cs : Array Value) (t : Nat) (v : Value) (ht : t < n) (hc : cs[t]? = some v) (w : World) :
    (Instr.index T (.agg cs) (.int .i64 (t : Int))).run Tryd.prog w = .ok v w := by
  have h1 : (sizeOf 90).run Tryd.prog w = .ok 1 w := by kernel_rfl
  simp [Instr.index, run_underlying hT, asIntOf, h1, part, hc, go_sem]
  intro h; omega

theorem zip_get (l v : List (BitVec 32)) (i : Nat) (hl : l.length = 8) (hv : v.length = 8) (hi : i < 8) : ((List.zipWith (· + ·) l v).take i ++ l.drop i).getD i 0 = l.getD i 0 := by
  have e : ((List.zipWith (· + ·) l v).take i).length = i := by simp [hl, hv]; omega
  unfold List.getD
  rw [List.getElem?_append_right (by omega), e, List.getElem?_drop]
  simp
theorem zip_len (l v : List (BitVec 32)) (i : Nat) (hl : l.length = 8) (hv : v.length = 8) (hi : i ≤ 8) : ((List.zipWith (· + ·) l v).take i ++ l.drop i).length = 8 := by
  simp [hl, hv]; omega

set_option maxRecDepth 100000 in
set_option maxHeartbeats 4000000 in
theorem mix_any {w : World} {g : Nat} {T : TypeId} {l : List (BitVec 32)} {z : List Nat} {X : List Value} (hg : Sq w g T l (u8s z ++ X)) (hl : l.length = 8) (hz : z.length = 64) (hlt : ∀ x ∈ z, x < 256) (hk : Kw w) :
    Calls Tryd.prog 71 #[.pointer (some ⟨g, 0, none⟩), .pointer (some ⟨g, 8, none⟩)] w fun e w' => e = .returned (.tuple #[]) ∧ Sq w' g T (comp (blkw z 0) l) (u8s z ++ X) ∧ But (· = g) w w' := by
  have hi47 : (Tryd.prog.info? 100).map (·.size) = some 64 := by kernel_rfl
  have HS := Hid.mk' (spread_any (w := w) (z := z) hg (by
    intro i hi
    rw [List.getElem?_toArray, List.getElem?_append_right (by simp [u32s]; omega), List.getElem?_append_left (by simp [u32s, u8s]; omega)]
    have e : 8 + i - (u32s l).length = i := by simp [u32s]; omega
    rw [e, u8s_get z i (by omega)]) (by
    intro i
    by_cases h : i < z.length
    · exact hlt _ (getD_mem z i h)
    · simp [List.getD, h]))
  have HG := Hid.mk' hg
  have HK := Hid.mk' hk
  have hgl := hg.lt
  have HLL := Hid.mk' hl
  clear hg hk hz hlt hl
  go_enter Tryd.func71, Tryd.ntmps71
  go_wp2_with fail
  refine Calls.mono HS.out ?_
  rintro e w1 ⟨rfl, hb1⟩
  have HLL2 : Hid ((sched (blkw z 0) 64).length = 64) := sched_len _ _
  obtain ⟨W, hW⟩ : ∃ W, W = sched (blkw z 0) 64 := ⟨_, rfl⟩
  obtain ⟨C, hC⟩ : ∃ C, C = (u32s W).toArray := ⟨_, rfl⟩
  rw [← hW] at HLL2 ⊢
  rw [← hC]
  have HLC : Hid (C.size = 64) := by show _ = _; rw [hC, size_u32s]; exact HLL2.out
  have HC' := Hid.mk' hC
  have HW := Hid.mk' hW
  clear hC hW HS
  go_wp2_with (first
    | (refine wpList_store_arr rfl _ _ _ rfl w1.heap.size W rfl (by rw [← HC'.out]; rfl) 100 _ (heap_alloc_new w1 _) (by rw [HLL2.out]; exact hi47) (by rw [HLL2.out]; rfl) ?_; intro w2 har2 hgrow2))
  have b2 : But (fun _ => False) w w2 := (hb1.alloc _).grown hgrow2 (fun k e hk => by cases e; have := hb1.size; omega)
  have HSq := Hid.mk' (HG.out.but b2 (fun h => h))
  have hc : ∀ i, i < 8 → w2.cell? ⟨g, i, none⟩ = some (.int .u32 (nt (l.getD i 0) : Int)) := fun i hi => HSq.out.cell i (by rw [HLL.out]; exact hi)
  have c0 := hc 0 (by decide)
  have c1 := hc 1 (by decide)
  have c2 := hc 2 (by decide)
  have c3 := hc 3 (by decide)
  have c4 := hc 4 (by decide)
  have c5 := hc 5 (by decide)
  have c6 := hc 6 (by decide)
  have c7 := hc 7 (by decide)
  have HL0 : Hid (l = [l.getD 0 0, l.getD 1 0, l.getD 2 0, l.getD 3 0, l.getD 4 0, l.getD 5 0, l.getD 6 0, l.getD 7 0]) := by
    show _ = _
    have := HLL.out
    match l, this with
    | [_, _, _, _, _, _, _, _], _ => rfl
  generalize l.getD 0 0 = l0 at *
  generalize l.getD 1 0 = l1 at *
  generalize l.getD 2 0 = l2 at *
  generalize l.getD 3 0 = l3 at *
  generalize l.getD 4 0 = l4 at *
  generalize l.getD 5 0 = l5 at *
  generalize l.getD 6 0 = l6 at *
  generalize l.getD 7 0 = l7 at *
  have HB2 := Hid.mk' b2
  have HAR2 : Hid (w2.heap[w1.heap.size]? = some (.cells C 100 (0, 0))) := by show _ = _; rw [HC'.out]; exact har2
  clear hc b2 hgrow2 har2
  go_wp2
  go_quiet (fail)
  go_wp2
  go_quiet (fail)
  have key : ∀ (wx : World), wx.heap = w2.heap → ∀ (ops : Array Oper) (rest : List Oper) (o : Oper) (a : Act) (Q : Exit → Act → World → Prop) (x : Operand), o.guard = none → o.op = .load 100 x → a.eval x = .pointer (some ⟨w1.heap.size, 0, none⟩) → wpList Tryd.prog ops Q rest (a.put o.dst (.agg C)) wx → wpList Tryd.prog ops Q (o :: rest) a wx :=
    fun wx hx ops rest o a Q x h1 h2 h3 h4 => wpList_load_row h1 100 x h2 w1.heap.size h3 100 C (0, 0) _ (by rw [hx]; exact HAR2.out) Tryd.underlying100 rfl (by rw [HLC.out]; exact hi47) h4
  have KEY := Hid.mk' key
  clear key c0 c1 c2 c3 c4 c5 c6 c7
  go_wp2_with (refine KEY.out _ (by exact rfl) _ _ _ _ _ _ rfl rfl (by exact rfl) ?_)
  have HR0 : Hid (rnds (blkw z 0) l 0 = [l0, l1, l2, l3, l4, l5, l6, l7]) := HL0.out
  have HL1 : Hid (sched (blkw z 0) 64 = W) := HW.out.symm
  have HLZ : Hid (l = [l0, l1, l2, l3, l4, l5, l6, l7]) := HL0.out
  have HRN : Hid (∀ t, rnds (blkw z 0) l (t + 1) = rnd (kws.getD t 0) (W.getD t 0) (rnds (blkw z 0) l t)) := by
    intro t; show rnd _ ((sched (blkw z 0) 64).getD t 0) _ = _; rw [HL1.out]
  have HCI : Hid (∀ t, t < 64 → C[t]? = some (.int .u32 (nt (W.getD t 0) : Int))) := by
    intro t ht
    rw [HC'.out, List.getElem?_toArray]
    have := HLL2.out
    simp [u32s, List.getElem?_eq_getElem (show t < W.length by omega)]
  clear HC' HW HL0 KEY HAR2 HLC HL1
  obtain ⟨RN, hRN⟩ : ∃ RN, RN = rnds (blkw z 0) l := ⟨_, rfl⟩
  have HC8 : Hid (comp (blkw z 0) l = List.zipWith (· + ·) l (RN 64)) := by rw [hRN]; rfl
  rw [← hRN] at HR0 HRN
  clear hRN
  have hsz2 := HB2.out.size
  go_loopw [5, 6, 7, 8, 9, 10, 11, 12, 54] (fun a b c d e f g h i wr => ∃ (t : Nat) (xa xb xc xd xe xf xg xh : BitVec 32), t ≤ 64 ∧ RN t = [xa, xb, xc, xd, xe, xf, xg, xh] ∧ But (fun _ => False) w2 wr ∧ a = .int .u32 (nt xa) ∧ b = .int .u32 (nt xb) ∧ c = .int .u32 (nt xc) ∧ d = .int .u32 (nt xd) ∧ e = .int .u32 (nt xe) ∧ f = .int .u32 (nt xf) ∧ g = .int .u32 (nt xg) ∧ h = .int .u32 (nt xh) ∧ i = .int .i64 t) (fun _ _ _ _ _ _ _ _ i _ => 64 - (intOf i).toNat)
  case atStart => exact ⟨0, l0, l1, l2, l3, l4, l5, l6, l7, by decide, HR0.out, (But.refl _ w2).drewN, rfl, rfl, rfl, rfl, rfl, rfl, rfl, rfl, rfl⟩
  case round =>
    obtain ⟨t, xa, xb, xc, xd, xe, xf, xg, xh, ht, hrn, hbt, rfl, rfl, rfl, rfl, rfl, rfl, rfl, rfl, rfl⟩ := hrel
    have HBT := Hid.mk' hbt
    have HRT := Hid.mk' hrn
    clear hbt hrn
    by_cases h64 : t < 64
    · have kc : wr.cell? ⟨2, t, none⟩ = some (.int .u32 (nt (kws.getD t 0) : Int)) := (HK.out.but (HB2.out.trans HBT.out) (fun h => h)) t h64
      have hci := idx_u32 100 64 Tryd.underlying100 C t _ h64 (HCI.out t h64)
      have hn := HRN.out t
      rw [HRT.out] at hn
      have HN := Hid.mk' hn
      clear hn
      have h64i : (t : Int) < 64 := by omega
      generalize kws.getD t 0 = kk at *
      generalize W.getD t 0 = ww at *
      go_wp2
      go_quiet ((go_at_call 75; refine Calls.quiet_of_same (srotr_any _ _ (by decide) (by decide) _)))
      have ht1 : ((((nt xh : Int) + bits .xor .u32 (bits .xor .u32 (nt (xe.rotateRight 6) : Int) (nt (xe.rotateRight 11) : Int)) (nt (xe.rotateRight 25) : Int) + bits .xor .u32 (bits .and .u32 (nt xe : Int) (nt xf : Int)) (bits .and .u32 (bits .xor .u32 (if IntKind.u32.signed = true then -1 else IntKind.u32.max) (nt xe : Int)) (nt xg : Int)) + (nt kk : Int)) % 4294967296 + (nt ww : Int)) % 4294967296) = (nt (xh + bs1 xe + cho xe xf xg + kk + ww) : Int) := by
        rw [ones_nt, xor_nt, xor_nt, and_nt, and_nt, xor_nt, ← add_ntm, ← add_ntm, ← add_ntm, ← add_ntm]
        simp only [bs1, cho]
        omega
      rw [ht1]
      have HT1 : Hid (xh + bs1 xe + cho xe xf xg + kk + ww = xh + (xe.rotateRight 6 ^^^ xe.rotateRight 11 ^^^ xe.rotateRight 25) + ((xe &&& xf) ^^^ (~~~xe &&& xg)) + kk + ww) := rfl
      generalize xh + bs1 xe + cho xe xf xg + kk + ww = t1 at *
      clear ht1 hci kc
      have hs2 : bits .xor .u32 (bits .xor .u32 (nt (xa.rotateRight 2) : Int) (nt (xa.rotateRight 13) : Int)) (nt (xa.rotateRight 22) : Int) = (nt (bs0 xa) : Int) := by
        rw [xor_nt, xor_nt]; rfl
      have hmj : bits .xor .u32 (bits .xor .u32 (bits .and .u32 (nt xa : Int) (nt xb : Int)) (bits .and .u32 (nt xa : Int) (nt xc : Int))) (bits .and .u32 (nt xb : Int) (nt xc : Int)) = (nt (maj xa xb xc) : Int) := by
        rw [and_nt, and_nt, and_nt, xor_nt, xor_nt]; rfl
      have ha2 := add_ntm (bs0 xa) (maj xa xb xc)
      have HT2 : Hid (bs0 xa + maj xa xb xc = (xa.rotateRight 2 ^^^ xa.rotateRight 13 ^^^ xa.rotateRight 22) + ((xa &&& xb) ^^^ (xa &&& xc) ^^^ (xb &&& xc))) := rfl
      generalize bs0 xa + maj xa xb xc = t2 at *
      have ha3 := add_ntm xd t1
      have ha4 := add_ntm t1 t2
      go_wp2_with (go_at_call 75; refine Calls.mono (srotr_any _ _ (by decide) (by decide) _) ?_; rintro e w' ⟨rfl, rfl⟩)
      refine ⟨⟨t + 1, t1 + t2, xa, xb, xc, xd + t1, xe, xf, xg, by omega, ?_, HBT.out.drewN, by rw [ha4], rfl, rfl, rfl, by rw [ha3], rfl, rfl, rfl, by go_num⟩, by simp [intOf]; omega⟩
      rw [HN.out, HT1.out, HT2.out]; rfl
    · have hge : ¬ ((t : Int) < 64) := by omega
      have ht64 : t = 64 := by omega
      rw [ht64] at HRT
      obtain ⟨t0, ht0⟩ : ∃ t0, t0 = t := ⟨_, rfl⟩
      rw [← ht0] at hge ⊢
      clear ht0 h64 ht ht64 HRN HCI
      obtain ⟨wm, hwm⟩ : ∃ wm, wm = wr := ⟨_, rfl⟩
      subst hwm
      have HSm := Hid.mk' (HSq.out.but HBT.out (fun h => h))
      have HBm := Hid.mk' (HB2.out.trans HBT.out)
      go_wp2
      have HV8 : Hid ([xa, xb, xc, xd, xe, xf, xg, xh].length = 8) := rfl
      have HVI : Hid (∀ k, k < 8 → (#[.int .u32 (nt xa), .int .u32 (nt xb), .int .u32 (nt xc), .int .u32 (nt xd), .int .u32 (nt xe), .int .u32 (nt xf), .int .u32 (nt xg), .int .u32 (nt xh)] : Array Value)[k]? = some (.int .u32 (nt ([xa, xb, xc, xd, xe, xf, xg, xh].getD k 0) : Int))) := by
        intro k hk
        match k, hk with
        | 0, _ => rfl
        | 1, _ => rfl
        | 2, _ => rfl
        | 3, _ => rfl
        | 4, _ => rfl
        | 5, _ => rfl
        | 6, _ => rfl
        | 7, _ => rfl
      obtain ⟨V, hV⟩ : ∃ V, V = [xa, xb, xc, xd, xe, xf, xg, xh] := ⟨_, rfl⟩
      rw [← hV] at HRT HV8 HVI
      clear hV
      have HIX : Hid (∀ k : Nat, k < 8 → ∀ w, (Instr.index 102 (.agg #[.int .u32 (nt xa), .int .u32 (nt xb), .int .u32 (nt xc), .int .u32 (nt xd), .int .u32 (nt xe), .int .u32 (nt xf), .int .u32 (nt xg), .int .u32 (nt xh)]) (.int .i64 (k : Int))).run Tryd.prog w = .ok (.int .u32 (nt (V.getD k 0) : Int)) w) :=
        fun k hk => idx_u32 102 8 Tryd.underlying102 _ k _ hk (HVI.out k hk)
      go_loopw [125] (fun i wr => ∃ k : Nat, k ≤ 8 ∧ i = .int .i64 k ∧ Sq wr g T ((List.zipWith (· + ·) l V).take k ++ l.drop k) (u8s z ++ X) ∧ But (· = g) wm wr) (fun i _ => 8 - (intOf i).toNat)
      case atStart => exact ⟨0, by decide, rfl, by simpa using HSm.out, But.refl _ _⟩
      case round =>
        obtain ⟨k, hk, rfl, hsq, hbk⟩ := hrel
        by_cases h8 : k < 8
        · have hix := HIX.out k h8
          have hcell := hsq.cell k (by rw [zip_len l V k HLL.out HV8.out hk]; exact h8)
          rw [zip_get l V k HLL.out HV8.out h8] at hcell
          have hfr := hsq.free k
          have HSK := Hid.mk' hsq
          have HBK := Hid.mk' hbk
          have HZ := Hid.mk' (zip_take l V k HLL.out HV8.out h8)
          have hadd := add_ntm (l.getD k 0) (V.getD k 0)
          clear hsq hbk
          generalize l.getD k 0 = lk at *
          generalize V.getD k 0 = vk at *
          have h8i : (k : Int) < 8 := by omega
          go_wp2
          go_region
          rw [hadd]
          go_wp2
          refine ⟨⟨k + 1, by omega, by go_num, ?_, (HBK.out.setCell (fun _ => rfl) _).drew⟩, by simp [intOf]; omega⟩
          have hs := HSK.out.set k (by rw [zip_len l V k HLL.out HV8.out hk]; exact h8) (lk + vk)
          rw [HZ.out] at hs
          exact hs
        · have hk8 : k = 8 := by omega
          have hge8 : ¬ ((k : Int) < 8) := by omega
          have e8 : (List.zipWith (· + ·) l V).take k ++ l.drop k = comp (blkw z 0) l := by
            rw [hk8, HC8.out, HRT.out, List.take_of_length_le (by simp [HLL.out, HV8.out]), List.drop_of_length_le (by simp [HLL.out]), List.append_nil]
          rw [e8] at hsq
          have HSK := Hid.mk' hsq
          have HBF := Hid.mk' ((HBm.out.mono (S := (· = g)) (fun _ _ h => h.elim)).trans hbk)
          clear hsq hbk hk8 e8 h8 hk
          go_wp2
          go_end0
          exact ⟨rfl, HSK.out, HBF.out⟩
end Go.Proofs.YtmlladpmecclbaaDoor
/- The program's putWord, New, Len. -/
namespace Go.Proofs.YtmlladpmecclbaaDoor
open Go.RowKit

/-- A word's four bytes, the highest first. -/
def by4 (x : BitVec 32) : List Nat := [nt x / 16777216 % 256, nt x / 65536 % 256, nt x / 256 % 256, nt x % 256]
set_option maxHeartbeats 1000000 in
theorem putWord_any {w : World} {g off n c : Nat} {T : TypeId} {A B : List Value} {v0 v1 v2 v3 : Value} {x : BitVec 32} (hb : Blk w g T (A ++ [v0, v1, v2, v3] ++ B)) (hA : A.length = off) (hn : 4 ≤ n) :
    Calls Tryd.prog 73 #[.slice (some ⟨g, off, none⟩) n c, .int .u32 (nt x)] w fun e w' => e = .returned (.tuple #[]) ∧ Blk w' g T (A ++ u8s (by4 x) ++ B) ∧ But (· = g) w w' := by
  have hx := nt_lt x
  have f0 := hb.free off
  have f1 := hb.free (off + 1)
  have f2 := hb.free (off + 2)
  have f3 := hb.free (off + 3)
  have c0 : w.cell? ⟨g, off, none⟩ = some v0 := by rw [hb.cell]; simp [← hA]
  have c1 : w.cell? ⟨g, off + 1, none⟩ = some v1 := by rw [hb.cell]; simp [← hA]
  have c2 : w.cell? ⟨g, off + 2, none⟩ = some v2 := by rw [hb.cell]; simp [← hA]
  have c3 : w.cell? ⟨g, off + 3, none⟩ = some v3 := by rw [hb.cell]; simp [← hA]
  have HB := Hid.mk' hb
  clear hb
  go_enter Tryd.func73, Tryd.ntmps73
  go_wp2
  go_end0
  refine ⟨rfl, ?_, ((((But.refl (· = g) w).setCell (p := ⟨g, off, none⟩) (fun _ => rfl) _).setCell (p := ⟨g, off + 1, none⟩) (fun _ => rfl) _).setCell (p := ⟨g, off + 2, none⟩) (fun _ => rfl) _).setCell (p := ⟨g, off + 3, none⟩) (fun _ => rfl) _⟩
  have h := (((HB.out.set off (.int .u8 ((nt x : Int) / 16777216))).set (off + 1) (.int .u8 ((nt x : Int) / 65536 % 256))).set (off + 2) (.int .u8 ((nt x : Int) / 256 % 256))).set (off + 3) (.int .u8 ((nt x : Int) % 256))
  have e0 : (nt x : Int) / 16777216 = ((nt x / 16777216 % 256 : Nat) : Int) := by omega
  have e1 : (nt x : Int) / 65536 % 256 = ((nt x / 65536 % 256 : Nat) : Int) := by omega
  have e2 : (nt x : Int) / 256 % 256 = ((nt x / 256 % 256 : Nat) : Int) := by omega
  have e3 : (nt x : Int) % 256 = ((nt x % 256 : Nat) : Int) := by omega
  have e : ((((A ++ [v0, v1, v2, v3] ++ B).set off (.int .u8 ((nt x : Int) / 16777216))).set (off + 1) (.int .u8 ((nt x : Int) / 65536 % 256))).set (off + 2) (.int .u8 ((nt x : Int) / 256 % 256))).set (off + 3) (.int .u8 ((nt x : Int) % 256)) = A ++ u8s (by4 x) ++ B := by
    rw [e0, e1, e2, e3, ← hA]
    simp [u8s, by4, List.append_assoc, List.set_append_right]
  rw [e] at h
  exact h

/-- A sum of no bytes, as memory has it. -/
def zero73 : List Value := u32s (List.replicate 8 0) ++ (u8s (List.replicate 64 0) ++ [.int .i64 0])
end Go.Proofs.YtmlladpmecclbaaDoor
/- A state and a waiting block, and the bytes that they hold. -/
namespace Go.Proofs.YtmlladpmecclbaaDoor
open Go.RowKit

theorem sched_congr (m m' : Nat → BitVec 32) (h : ∀ t, t < 16 → m t = m' t) (t : Nat) : sched m t = sched m' t := by
  induction t with
  | zero => rfl
  | succ t ih =>
    simp only [sched, ih, nextw]
    by_cases ht : t < 16
    · simp [ht, h t ht]
    · simp [ht]
theorem rnds_congr (m m' : Nat → BitVec 32) (h : ∀ t, t < 16 → m t = m' t) (v : List (BitVec 32)) (t : Nat) : rnds m v t = rnds m' v t := by
  induction t with
  | zero => rfl
  | succ t ih => simp only [rnds, ih, sched_congr m m' h 64]
theorem comp_congr (m m' : Nat → BitVec 32) (h : ∀ t, t < 16 → m t = m' t) (v : List (BitVec 32)) : comp m v = comp m' v := by
  unfold comp; rw [rnds_congr m m' h v 64]
theorem blkw_congr (z z' : List Nat) (p p' : Nat) (h : ∀ i, i < 64 → z.getD (p + i) 0 = z'.getD (p' + i) 0) (t : Nat) (ht : t < 16) : blkw z p t = blkw z' p' t := by
  unfold blkw
  have h0 := h (4 * t) (by omega)
  have h1 := h (4 * t + 1) (by omega)
  have h2 := h (4 * t + 2) (by omega)
  have h3 := h (4 * t + 3) (by omega)
  simp only [← Nat.add_assoc] at h1 h2 h3
  rw [h0, h1, h2, h3]
theorem getD_app (xs ys : List Nat) (i : Nat) (h : i < xs.length) : (xs ++ ys).getD i 0 = xs.getD i 0 := by
  simp [List.getD, List.getElem?_append_left h]
theorem getD_app2 (xs ys : List Nat) (i : Nat) (h : xs.length ≤ i) : (xs ++ ys).getD i 0 = ys.getD (i - xs.length) 0 := by
  simp [List.getD, List.getElem?_append_right h]
theorem hst_app (xs ys : List Nat) (k : Nat) (h : 64 * k ≤ xs.length) : hst (xs ++ ys) k = hst xs k := by
  induction k with
  | zero => rfl
  | succ k ih =>
    simp only [hst]
    rw [ih (by omega)]
    exact comp_congr _ _ (blkw_congr _ _ _ _ fun i hi => getD_app _ _ _ (by omega)) _

/-- These bytes are held by a state and a waiting block. -/
def Holds (all : List Nat) (l : List (BitVec 32)) (z : List Nat) : Prop :=
  l = hst all (all.length / 64) ∧ ∀ i, i < all.length % 64 → z.getD i 0 = all.getD (64 * (all.length / 64) + i) 0

theorem sput_get (z ys : List Nat) (q n i : Nat) (hz : z.length = 64) (hn : n ≤ ys.length) (hq : q + n ≤ 64) (hi : i < q + n) :
    (z.take q ++ ys.take n ++ z.drop (q + n)).getD i 0 = if i < q then z.getD i 0 else ys.getD (i - q) 0 := by
  have h1 : (z.take q ++ ys.take n).length = q + n := by simp; omega
  have h2 : (z.take q).length = q := by simp; omega
  rw [getD_app _ _ _ (by omega)]
  by_cases h : i < q
  · rw [if_pos h, getD_app _ _ _ (by omega)]; simp [List.getD, h]
  · rw [if_neg h, getD_app2 _ _ _ (by omega), h2]; simp [List.getD, show i - q < n by omega]

theorem Holds.put {all ys z : List Nat} {l : List (BitVec 32)} (h : Holds all l z) (n : Nat) (hz : z.length = 64) (hn : n ≤ ys.length) (hq : all.length % 64 + n ≤ 64) :
    ∀ i, i < all.length % 64 + n → (z.take (all.length % 64) ++ ys.take n ++ z.drop (all.length % 64 + n)).getD i 0 = (all ++ ys.take n).getD (64 * (all.length / 64) + i) 0 := by
  intro i hi
  rw [sput_get z ys _ n i hz hn hq hi]
  by_cases hlt : i < all.length % 64
  · rw [if_pos hlt, h.2 i hlt, getD_app _ _ _ (by omega)]
  · rw [if_neg hlt, getD_app2 _ _ _ (by omega)]
    have e : 64 * (all.length / 64) + i - all.length = i - all.length % 64 := by omega
    rw [e]; simp [List.getD, show i - all.length % 64 < n by omega]

theorem Holds.part {all ys z : List Nat} {l : List (BitVec 32)} (h : Holds all l z) (n : Nat) (hz : z.length = 64) (hn : n ≤ ys.length) (hq : all.length % 64 + n < 64) :
    Holds (all ++ ys.take n) l (z.take (all.length % 64) ++ ys.take n ++ z.drop (all.length % 64 + n)) := by
  have hl : (all ++ ys.take n).length = all.length + n := by simp; omega
  have hd : (all.length + n) / 64 = all.length / 64 := by omega
  have hm : (all.length + n) % 64 = all.length % 64 + n := by omega
  refine ⟨?_, ?_⟩
  · rw [hl, hd, hst_app _ _ _ (by omega)]; exact h.1
  · rw [hl, hd, hm]
    exact h.put n hz hn (by omega)

theorem Holds.full {all ys z : List Nat} {l : List (BitVec 32)} (h : Holds all l z) (n : Nat) (hz : z.length = 64) (hn : n ≤ ys.length) (hq : all.length % 64 + n = 64) :
    Holds (all ++ ys.take n) (comp (blkw (z.take (all.length % 64) ++ ys.take n ++ z.drop (all.length % 64 + n)) 0) l) (z.take (all.length % 64) ++ ys.take n ++ z.drop (all.length % 64 + n)) := by
  have hl : (all ++ ys.take n).length = all.length + n := by simp; omega
  have hd : (all.length + n) / 64 = all.length / 64 + 1 := by omega
  have hm : (all.length + n) % 64 = 0 := by omega
  refine ⟨?_, ?_⟩
  · rw [hl, hd]
    simp only [hst]
    rw [hst_app _ _ _ (by omega), ← h.1]
    refine comp_congr _ _ (blkw_congr _ _ _ _ fun i hi => ?_) _
    rw [Nat.zero_add]
    exact h.put n hz hn (by omega) i (by omega)
  · rw [hl, hm]; intro i hi; omega
theorem Holds.nil (z : List Nat) : Holds [] hws z := ⟨rfl, by intro i hi; simp at hi⟩

/-- A sum in memory. -/
def Sm (w : World) (g : Nat) (all : List Nat) : Prop :=
  ∃ l z, Blk w g 115 (u32s l ++ (u8s z ++ [.int .i64 (all.length : Nat)])) ∧ l.length = 8 ∧ z.length = 64 ∧ (∀ x ∈ z, x < 256) ∧ (all ≠ [] → Holds all l z)
theorem Sm.but {R : Nat → Prop} {w w' : World} {g : Nat} {all : List Nat} (h : Sm w g all) (k : But R w w') (hr : ¬ R g) : Sm w' g all := by
  obtain ⟨l, z, hb, h1, h2, h3, h4⟩ := h
  exact ⟨l, z, hb.but k hr, h1, h2, h3, h4⟩
theorem Sm.lt {w : World} {g : Nat} {all : List Nat} (h : Sm w g all) : g < w.heap.size := by
  obtain ⟨l, z, hb, _⟩ := h
  exact hb.lt
theorem Sm.len {w : World} {g : Nat} {all : List Nat} (h : Sm w g all) : w.cell? ⟨g, 72, none⟩ = some (.int .i64 (all.length : Nat)) := by
  obtain ⟨l, z, hb, h1, h2, _⟩ := h
  rw [hb.cell, List.getElem?_append_right (by simp [h1]), List.getElem?_append_right (by simp [h1, u8s, h2])]
  simp [h1, u8s, h2]
theorem Sm.zero {w : World} {g : Nat} (h : Blk w g 115 zero73) : Sm w g [] :=
  ⟨List.replicate 8 0, List.replicate 64 0, h, by simp, by simp, by simp, fun h => (h rfl).elim⟩
end Go.Proofs.YtmlladpmecclbaaDoor
/- Memory: cells of a row read and laid in its middle; bytes copied into it. -/
namespace Go.Proofs.YtmlladpmecclbaaDoor
open Go.RowKit

theorem u32s_mem_one (l : List (BitVec 32)) : ∀ v ∈ u32s l, v.oneCell' = true := by
  intro u hu
  simp only [u32s, List.mem_map] at hu
  obtain ⟨x, _, rfl⟩ := hu
  rfl
end Go.Proofs.YtmlladpmecclbaaDoor
/- The program's Write. -/
namespace Go.Proofs.YtmlladpmecclbaaDoor
open Go.RowKit

theorem write_nil {w : World} {v : Value} :
    Calls Tryd.prog 64 #[.pointer none, v] w fun e w' => e = .returned (.tuple #[]) ∧ w' = w := by
  go_enter Tryd.func64, Tryd.ntmps64
  go_wp2
  refine bodyPost_ret (v := .tuple #[]) (by simp [results, Tryd.f64]) rfl ⟨rfl, rfl⟩

/-- The first state, where the program keeps it. -/
def Hw (w : World) : Prop := ∀ i, i < 8 → w.cell? ⟨0, i, none⟩ = some (.int .u32 (nt (hws.getD i 0) : Int))
theorem Hw.lt {w : World} (h : Hw w) : 0 < w.heap.size := World.block_lt_of_cell? _ _ (h 0 (by decide))
theorem Hw.but {R : Nat → Prop} {w w' : World} (h : Hw w) (k : But R w w') (hr : ¬ R 0) : Hw w' := fun i hi =>
  (World.cell?_of_block (k.block 0 h.lt hr)).trans (h i hi)
theorem Hw.cells {w : World} (h : Hw w) : ∀ j v, (u32s hws)[j]? = some v → w.cell? ((⟨0, 0, none⟩ : Addr).add j) = some v := by
  intro j v hv
  have hj : j < 8 := by have := (List.getElem?_eq_some_iff.1 hv).1; simpa [u32s, hws] using this
  have e : (⟨0, 0, none⟩ : Addr).add j = ⟨0, j, none⟩ := by unfold Addr.add; split <;> simp_all
  rw [e, h j hj, ← hv]
  simp [u32s, List.getElem?_eq_getElem (show j < hws.length by simpa [hws] using hj)]

set_option maxRecDepth 100000 in
set_option maxHeartbeats 4000000 in
theorem write_any {w : World} {v : Value} {g : Nat} {all xs : List Nat} (hv : Bs w v xs) (hs : Sm w g all) (hk : Kw w) (hh : Hw w) (hg : 2 < g) (hne : 0 < xs.length → v.ownBlock ≠ some g) (hlen : all.length + xs.length ≤ 1073741824) :
    Calls Tryd.prog 64 #[.pointer (some ⟨g, 0, none⟩), v] w fun e w' => e = .returned (.tuple #[]) ∧ Sm w' g (all ++ xs) ∧ But (· = g) w w' := by
  have hi43 : (Tryd.prog.info? 102).map (·.size) = some 8 := by kernel_rfl
  have hcl := hs.len
  obtain ⟨l, z, hb, hl8, hz64, hzb, hho⟩ := hs
  have HB := Hid.mk' hb
  have HH := Hid.mk' hh
  have HK := Hid.mk' hk
  have HV := Hid.mk' hv
  have HL8 := Hid.mk' hl8
  have HZ64 := Hid.mk' hz64
  have HZB := Hid.mk' hzb
  have HNE := Hid.mk' hne
  have HN := Hid.mk' hlen
  have HG2 := Hid.mk' hg
  obtain ⟨ao, cap, rfl, hnone, hcells⟩ := hv.gen
  clear hb hh hk hv hl8 hz64 hzb hne hnone hcells
  have hgl := HB.out.lt
  go_enter Tryd.func64, Tryd.ntmps64
  by_cases h0 : all.length = 0
  case' pos =>
    have h0i : ((all.length : Nat) : Int) = 0 := by omega
    have hall : all = [] := List.eq_nil_of_length_eq_zero h0
    have hB1 := HB.out
    rw [h0] at hB1
    have HB1 := Hid.mk' hB1
    clear hB1
    have hstart : Hid (∀ (wx : World) (ops : Array Oper) (rest : List Oper) (o : Oper) (a : Act) (Q : Exit → Act → World → Prop) (x : Operand), wx = w → o.guard = none → o.op = .load 102 x → a.eval x = .pointer (some ⟨0, 0, none⟩) → wpList Tryd.prog ops Q rest (a.put o.dst (.agg (u32s hws).toArray)) wx → wpList Tryd.prog ops Q (o :: rest) a wx) := by
      intro wx ops rest o a Q x e h1 h2 h3 h4
      subst e
      exact wpList_load_cells h1 102 x h2 _ h3 (u32s hws) _ HH.out.cells Tryd.underlying102 rfl (by rw [hi43]; rfl) h4
    have hput : Hid (∀ (ops : Array Oper) (rest : List Oper) (o : Oper) (a : Act) (Q : Exit → Act → World → Prop) (x y : Operand), o.guard = none → o.op = .store 102 x y → a.eval x = .pointer (some ⟨g, 0, none⟩) → a.eval y = .agg (u32s hws).toArray → (∀ w', Blk w' g 115 (u32s hws ++ (u8s z ++ [.int .i64 (0 : Nat)])) → But (· = g) w w' → wpList Tryd.prog ops Q rest (a.put o.dst undef) w') → wpList Tryd.prog ops Q (o :: rest) a w) := by
      intro ops rest o a Q x y h1 h2 h3 h4 h5
      refine wpList_store_at h1 102 x y h2 g 0 (u32s hws) h3 h4 115 [] (u32s l) (u8s z ++ [.int .i64 (0 : Nat)]) (by simpa using HB1.out) rfl (by rw [List.length_map, HL8.out]; rfl) (by rw [hi43]; rfl) (u32s_mem_one _) ?_
      intro w' hb' hb2
      exact h5 w' (by simpa using hb') hb2
    obtain ⟨C, hC⟩ : ∃ C, C = (u32s hws).toArray := ⟨_, rfl⟩
    rw [← hC] at hstart hput
    clear hC
    go_wp2_with (first
      | (refine hstart.out _ _ _ _ _ _ _ rfl rfl rfl (by exact rfl) ?_)
      | (refine hput.out _ _ _ _ _ _ _ rfl rfl rfl (by exact rfl) ?_; intro w1 hb1 hbut1))
    have HL1 : Hid (∃ l z, Blk w1 g 115 (u32s l ++ (u8s z ++ [.int .i64 (all.length : Nat)])) ∧ l.length = 8 ∧ z.length = 64 ∧ (∀ x ∈ z, x < 256) ∧ Holds all l z) :=
      ⟨hws, z, by rw [h0]; exact hb1, rfl, HZ64.out, HZB.out, by rw [hall]; exact Holds.nil z⟩
    have HBW := Hid.mk' hbut1
    clear hb1 hbut1 hstart hput h0i hall hho h0
    simp only [Act.put]
  case' neg =>
    have h0i : (((all.length : Nat) : Int) == 0) = false := by rw [beq_eq_false_iff_ne]; omega
    have HL1 : Hid (∃ l z, Blk w g 115 (u32s l ++ (u8s z ++ [.int .i64 (all.length : Nat)])) ∧ l.length = 8 ∧ z.length = 64 ∧ (∀ x ∈ z, x < 256) ∧ Holds all l z) :=
      ⟨l, z, HB.out, HL8.out, HZ64.out, HZB.out, hho (fun e => h0 (by rw [e]; rfl))⟩
    clear hho
    go_wp2
    obtain ⟨w1, hw1⟩ : ∃ w1, w1 = w := ⟨_, rfl⟩
    rw [← hw1]
    have HBW : Hid (But (· = g) w w1) := by rw [hw1]; exact But.refl _ _
    rw [← hw1] at HL1
    clear hw1 h0i h0 hcl
  all_goals
    go_loopw [1] (fun p wr => ∃ (k : Nat) (l : List (BitVec 32)) (z : List Nat), k ≤ xs.length ∧ Blk wr g 115 (u32s l ++ (u8s z ++ [.int .i64 ((all.length + k : Nat) : Int)])) ∧ l.length = 8 ∧ z.length = 64 ∧ (∀ x ∈ z, x < 256) ∧ Holds (all ++ xs.take k) l z ∧ Bs wr p (xs.drop k) ∧ (k < xs.length → p.ownBlock ≠ some g) ∧ But (· = g) w wr) (fun p _ => match p with | .slice _ m _ => m | _ => 0)
    case atStart =>
      obtain ⟨l, z, h1, h2, h3, h4, h5⟩ := HL1.out
      refine ⟨0, l, z, Nat.zero_le _, h1, h2, h3, h4, by simpa using h5, ?_, HNE.out, HBW.out⟩
      by_cases hx0 : 0 < xs.length
      · exact HV.out.but HBW.out (fun j e _ => fun e2 => HNE.out hx0 (by rw [e, e2]))
      · have hxn : xs = [] := by cases xs; rfl; simp at hx0
        subst hxn
        obtain ⟨a1, a2, a3 | ⟨a4, _⟩⟩ := HV.out
        · exact ⟨a1, a2, .inl a3⟩
        · simp at a4
    case round =>
      obtain ⟨k, l1, z1, hkx, hblk, hl1, hz1, hzb1, hhold, hbs, hown, hbut⟩ := hrel
      have HBL := Hid.mk' hblk
      have HHO := Hid.mk' hhold
      have HBS := Hid.mk' hbs
      have HL18 := Hid.mk' hl1
      have HZ1 := Hid.mk' hz1
      have HZB1 := Hid.mk' hzb1
      have HBU := Hid.mk' hbut
      clear hblk hhold hl1 hz1 hzb1 hbut
      by_cases hlt : k < xs.length
      · have hob := hown hlt
        obtain ⟨_, _, ⟨hnil, _⟩ | ⟨hm0, b, so, cap1, rfl, hcap1, hbl, hcell⟩⟩ := hbs
        · have := congrArg List.length hnil; simp at this; omega
        have hbg : b ≠ g := fun e => hob (by rw [e]; rfl)
        obtain ⟨N, hN⟩ : ∃ N, N = all.length + k := ⟨_, rfl⟩
        obtain ⟨q, hq⟩ : ∃ q, q = N % 64 := ⟨_, rfl⟩
        obtain ⟨m, hm⟩ : ∃ m, m = (xs.drop k).length := ⟨_, rfl⟩
        obtain ⟨n, hn⟩ : ∃ n, n = Nat.min (xs.drop k).length (64 - q) := ⟨_, rfl⟩
        have hn1 : n ≤ m := by rw [hn, hm]; exact Nat.min_le_left _ _
        have hn2 : n ≤ 64 - q := by rw [hn]; exact Nat.min_le_right _ _
        have hn3 : n = m ∨ n = 64 - q := by rw [hn, hm]; simp only [Nat.min_def]; split <;> omega
        have hq64 : q < 64 := by omega
        have hn0 : 0 < n := by omega
        have hNle : N ≤ 1073741824 := by have := HN.out; omega
        have hmk : m = xs.length - k := by rw [hm]; simp
        have hmle : m ≤ 1073741824 := by have := HN.out; omega
        rw [← hN] at HBL
        have hcut := cut64 g 8 q (q : Int) rfl hq64
        have hlencell : wr.cell? ⟨g, 72, none⟩ = some (.int .i64 (N : Int)) := by
          rw [HBL.out.cell, List.getElem?_append_right (by simp [HL18.out]), List.getElem?_append_right (by simp [HL18.out, u8s, HZ1.out])]
          simp [HL18.out, u8s, HZ1.out]
        have hsplit : u32s l1 ++ (u8s z1 ++ [Value.int .i64 (N : Int)]) = (u32s l1 ++ u8s (z1.take q)) ++ u8s ((z1.drop q).take n) ++ (u8s (z1.drop (q + n)) ++ [Value.int .i64 (N : Int)]) := by
          have e : z1 = z1.take q ++ ((z1.drop q).take n ++ z1.drop (q + n)) := by
            rw [← List.drop_drop, List.take_append_drop, List.take_append_drop]
          conv => lhs; rw [e]
          simp [List.append_assoc]
        have hB := HBL.out
        rw [hsplit] at hB
        have hcp : ∀ d : Nat, (Builtin.copy_ #[22, 22] 3 #[.slice (some ⟨g, 8 + q, none⟩) (64 - q) (64 - q), .slice (some ⟨b, so, none⟩) (xs.drop k).length cap1]).run Tryd.prog (wr.drewN d) = .ok (.int .i64 (n : Int)) ((wr.setRow g ((u32s l1 ++ u8s (z1.take q)) ++ u8s ((xs.drop k).take n) ++ (u8s (z1.drop (q + n)) ++ [Value.int .i64 (N : Int)])).toArray).drewN d) := by
          intro d
          exact run_copy_blk (w := wr.drewN d) 3 hB (by simp [HL18.out, u8s, HZ1.out]; omega) (by simp [u8s, HZ1.out]; omega) hn (fun i hi => hcell i hi)
        have hcp0 := hcp 0
        have hcp1 := hcp 1
        clear hcp
        have hrem : (N : Int) % 64 = (q : Int) := by omega
        rw [← hm] at hcp0 hcp1 ⊢
        have hmi : (0 : Int) < (m : Int) := by omega
        have HX0 := Hid.mk' hB
        obtain ⟨R, hR⟩ : ∃ R, R = ((u32s l1 ++ u8s (z1.take q)) ++ u8s ((xs.drop k).take n) ++ (u8s (z1.drop (q + n)) ++ [Value.int .i64 (N : Int)])).toArray := ⟨_, rfl⟩
        rw [← hR] at hcp0 hcp1
        have HR := Hid.mk' hR
        clear hsplit hB hcell hR hown hob hn1 hn2 hn3 hmk hcap1
        have hcp0' : (Builtin.copy_ #[22, 22] 3 #[.slice (some ⟨g, 8 + q, none⟩) (64 - q) (64 - q), .slice (some ⟨b, so, none⟩) m cap1]).run Tryd.prog wr = .ok (.int .i64 (n : Int)) (wr.setRow g R) := hcp0
        have hcp1' : (Builtin.copy_ #[22, 22] 3 #[.slice (some ⟨g, 8 + q, none⟩) (64 - q) (64 - q), .slice (some ⟨b, so, none⟩) m cap1]).run Tryd.prog wr.drew = .ok (.int .i64 (n : Int)) (wr.setRow g R).drew := hcp1
        clear hcp0 hcp1
        have HFA := Hid.mk' (And.intro hN (And.intro hq (And.intro hm hn)))
        clear hN hq hm hn
        go_wp2
        go_region
        obtain ⟨w2, hw2⟩ : ∃ w2, w2 = (wr.setRow g R).drew := ⟨_, rfl⟩
        rw [← hw2]
        obtain ⟨hN, hq, hm, hn⟩ := HFA.out
        have hmk : m = xs.length - k := by rw [hm]; simp
        have hn1 : n ≤ m := by rw [hn, hm]; exact Nat.min_le_left _ _
        have hn2 : n ≤ 64 - q := by rw [hn]; exact Nat.min_le_right _ _
        have hcap1 : m ≤ cap1 := by
          obtain ⟨_, _, ⟨e, _⟩ | ⟨_, b', so', cap', e, hcc, _⟩⟩ := HBS.out
          · rw [hm, e]; exact Nat.zero_le _
          · simp only [Value.slice.injEq] at e
            rw [hm, e.2.2]; exact hcc
        have hBS := HBS.out
        rw [← hm] at hBS
        obtain ⟨p', hsl, hbs', hown', so', cap', hp'⟩ := hBS.cut hm.symm (by omega) hn1 hcap1
        obtain ⟨z2, hz2⟩ : ∃ z2, z2 = z1.take q ++ (xs.drop k).take n ++ z1.drop (q + n) := ⟨_, rfl⟩
        have hb2 : Blk w2 g 115 (u32s l1 ++ (u8s z2 ++ [Value.int .i64 (N : Int)])) := by
          have h := HBL.out.row ((u32s l1 ++ u8s (z1.take q)) ++ u8s ((xs.drop k).take n) ++ (u8s (z1.drop (q + n)) ++ [Value.int .i64 (N : Int)]))
          rw [← HR.out] at h
          rw [hw2, hz2]
          have e : u32s l1 ++ (u8s (z1.take q ++ (xs.drop k).take n ++ z1.drop (q + n)) ++ [Value.int .i64 (N : Int)]) = (u32s l1 ++ u8s (z1.take q)) ++ u8s ((xs.drop k).take n) ++ (u8s (z1.drop (q + n)) ++ [Value.int .i64 (N : Int)]) := by simp [List.append_assoc]
          rw [e]
          rw [HR.out] at h ⊢
          exact h
        have hbut2 : But (· = g) wr w2 := by rw [hw2]; exact ((But.refl (· = g) wr).setRow (g := g) (fun _ => rfl) R).drew
        have hz2l : z2.length = 64 := by rw [hz2]; simp [HZ1.out]; omega
        have hz2b : ∀ x ∈ z2, x < 256 := by
          intro x hx
          rw [hz2] at hx
          simp only [List.mem_append] at hx
          rcases hx with (hx | hx) | hx
          · exact HZB1.out x (List.mem_of_mem_take hx)
          · exact HBS.out.1 x (List.mem_of_mem_take hx)
          · exact HZB1.out x (List.mem_of_mem_drop hx)
        have hc2 : w2.cell? ⟨g, 72, none⟩ = some (.int .i64 (N : Int)) := by
          rw [hb2.cell, List.getElem?_append_right (by simp [HL18.out]), List.getElem?_append_right (by simp [HL18.out, u8s, hz2l])]
          simp [HL18.out, u8s, hz2l]
        have hf2 := hb2.free 72
        have hb3 : Blk (w2.setCell ⟨g, 72, none⟩ (.int .i64 ((N : Int) + (n : Int)))) g 115 (u32s l1 ++ (u8s z2 ++ [Value.int .i64 ((N + n : Nat) : Int)])) := by
          have h := hb2.set 72 (.int .i64 ((N : Int) + (n : Int)))
          have e : (u32s l1 ++ (u8s z2 ++ [Value.int .i64 (N : Int)])).set 72 (.int .i64 ((N : Int) + (n : Int))) = u32s l1 ++ (u8s z2 ++ [Value.int .i64 ((N + n : Nat) : Int)]) := by
            rw [List.set_append_right _ _ (by simp [HL18.out]), List.set_append_right _ _ (by simp [HL18.out, u8s, hz2l])]
            simp [HL18.out, u8s, hz2l]
          rw [e] at h
          exact h
        have HB3 := Hid.mk' hb3
        have hbut3 : But (· = g) wr (w2.setCell ⟨g, 72, none⟩ (.int .i64 ((N : Int) + (n : Int)))) := hbut2.setCell (fun _ => rfl) _
        have HBU3 := Hid.mk' hbut3
        have HBS' := Hid.mk' hbs'
        have HOW' := Hid.mk' hown'
        have HP' := Hid.mk' hp'
        have hNn : ((N : Int) + (n : Int)) ≤ 1073741824 := by have := HN.out; omega
        have hall' : (all ++ xs.take k).length = N := by simp; omega
        have htk : xs.take (k + n) = xs.take k ++ (xs.drop k).take n := List.take_add
        have hhk := HHO.out
        have hpart := fun h => hhk.part (ys := xs.drop k) n HZ1.out (by omega) h
        have hfull := fun h => hhk.full (ys := xs.drop k) n HZ1.out (by omega) h
        rw [hall', ← hq, ← hz2, List.append_assoc, ← htk] at hpart hfull
        have HPA := Hid.mk' hpart
        have HFU := Hid.mk' hfull
        have HZ2L := Hid.mk' hz2l
        have HZ2B := Hid.mk' hz2b
        have hsz3 : k + n ≤ xs.length ∧ m - n = xs.length - (k + n) := by omega
        have HSZ := Hid.mk' hsz3
        have HDD : Hid ((xs.drop k).drop n = xs.drop (k + n)) := List.drop_drop
        have HNN : Hid (N + n = all.length + (k + n)) := by show _ = _; omega
        have HMM : Hid (m - n < m) := by show _ < _; omega
        have HQN : Hid ((N + n) % 64 = (q + n) % 64 ∧ q + n ≤ 64 ∧ 0 < n) := by refine ⟨?_, ?_, ?_⟩ <;> omega
        clear hb2 hbut2 hb3 hbut3 hbs' hown' hp' hcp0' hcp1' HR hw2 hz2 hz2l hz2b hpart hfull hhk hall' htk hsz3 hlencell hcut hBS
        clear hN hq hm hn hn1 hn2 hcap1 hrem hmk
        by_cases hmod : (N + n) % 64 = 0
        case' pos =>
          have hmi2 : ((N : Int) + (n : Int)) % 64 = 0 := by omega
          have HM : Hid (∀ wx : World, But (· = g) wr wx ∧ wx.heap = (w2.setCell ⟨g, 72, none⟩ (.int .i64 ((N : Int) + (n : Int)))).heap → Calls Tryd.prog 71 #[.pointer (some ⟨g, 0, none⟩), .pointer (some ⟨g, 8, none⟩)] wx fun e w' => e = .returned (.tuple #[]) ∧ Blk w' g 115 (u32s (comp (blkw z2 0) l1) ++ (u8s z2 ++ [Value.int .i64 ((N + n : Nat) : Int)])) ∧ But (· = g) wr w') := by
            intro wx hx
            have hsq : Sq wx g 115 l1 (u8s z2 ++ [Value.int .i64 ((N + n : Nat) : Int)]) := by
              show wx.heap[g]? = _; rw [hx.2]; exact HB3.out
            have hkw : Kw wx := HK.out.but (HBU.out.trans hx.1) (by have := HG2.out; omega)
            refine (mix_any hsq HL18.out HZ2L.out HZ2B.out hkw).mono ?_
            rintro e w' ⟨rfl, h1, h2⟩
            exact ⟨rfl, h1, hx.1.trans h2⟩
          go_wp2
          go_region_with (go_at_call 71; refine Calls.mono (HM.out _ (by first | exact ⟨HBU3.out.drew, rfl⟩ | exact ⟨HBU3.out.drewN, rfl⟩ | exact ⟨HBU3.out, rfl⟩)) ?_; rintro e w4 ⟨rfl, hb4, hbut4⟩)
          go_wp2
          have e1 := HSZ.out
          have e2 := HPA.out
          have e3 := HQN.out
          refine ⟨⟨k + n, comp (blkw z2 0) l1, z2, e1.1, by rw [← HNN.out]; exact hb4, comp_len _ _ HL18.out, HZ2L.out, HZ2B.out, HFU.out (by omega), ?_, ?_, HBU.out.trans hbut4⟩, by rw [HP'.out]; exact HMM.out⟩
          · rw [← HDD.out]
            exact HBS'.out.but hbut4 (fun j hj _ hjg => hbg (by rw [HOW'.out] at hj; cases hj; exact hjg))
          · intro _ h; rw [HOW'.out] at h; cases h; exact hbg rfl
        case' neg =>
          have hmi2 : ¬ ((N : Int) + (n : Int)) % 64 = 0 := by omega
          go_wp2
          have e1 := HSZ.out
          have e2 := HPA.out
          have e3 := HQN.out
          refine ⟨⟨k + n, l1, z2, e1.1, by rw [← HNN.out]; exact HB3.out, HL18.out, HZ2L.out, HZ2B.out, HPA.out (by omega), ?_, ?_, HBU.out.trans HBU3.out⟩, by rw [HP'.out]; exact HMM.out⟩
          · rw [← HDD.out]
            exact HBS'.out.but HBU3.out (fun j hj _ hjg => hbg (by rw [HOW'.out] at hj; cases hj; exact hjg))
          · intro _ h; rw [HOW'.out] at h; cases h; exact hbg rfl
      · have hkl : k = xs.length := by omega
        have hd0 : xs.drop k = [] := by rw [hkl]; simp
        rw [hd0] at hbs
        obtain ⟨ap, cp, hp, _, _⟩ := hbs.gen
        subst hp
        have HKL := Hid.mk' hkl
        clear hkl hbs hown hlt hkx hd0
        go_wp2
        go_end0
        have htk : xs.take k = xs := by rw [HKL.out]; simp
        have hho := HHO.out
        rw [htk] at hho
        refine ⟨rfl, ⟨l1, z1, ?_, HL18.out, HZ1.out, HZB1.out, fun _ => hho⟩, HBU.out⟩
        have e : (all ++ xs).length = all.length + k := by rw [List.length_append, HKL.out]
        rw [e]
        exact HBL.out
end Go.Proofs.YtmlladpmecclbaaDoor
/- The program's pad. -/
namespace Go.Proofs.YtmlladpmecclbaaDoor
open Go.RowKit

theorem run72 : Tryd.prog.underlying 128 = some (.array (Tryd.prog.arrayLen 128) (Tryd.prog.elem 128)) := by kernel_rfl
theorem cut72 (g l : Nat) (i : Int) (hi : i = (l : Int)) (hl : l < 72) (w : World) :
    (Instr.sliceAt 128 (.pointer (some ⟨g, 0, none⟩)) (some (.int .i64 i)) none none).run Tryd.prog w = .ok (.slice (some ⟨g, l, none⟩) (72 - l) (72 - l)) w := by
  subst hi
  have ha : Tryd.prog.arrayLen 128 = 72 := by kernel_rfl
  have he : Tryd.prog.elem 128 = 5 := by kernel_rfl
  have hs : (sizeOf 5).run Tryd.prog w = .ok 1 w := by kernel_rfl
  rw [run_sliceAt_array_l w _ _ run72 .i64 (l : Int) (by omega) (by rw [ha]; omega), he, hs, ha]
  have hne : ¬ (72 = l) := by omega
  simp [Result.andThen, slicedAt, hne, Addr.add]
  intro h; exact h.symm
theorem cut72h (g l : Nat) (i : Int) (hi : i = (l : Int)) (hl : l ≤ 72) (w : World) :
    (Instr.sliceAt 128 (.pointer (some ⟨g, 0, none⟩)) none (some (.int .i64 i)) none).run Tryd.prog w = .ok (.slice (some ⟨g, 0, none⟩) l 72) w := by
  subst hi
  have ha : Tryd.prog.arrayLen 128 = 72 := by kernel_rfl
  have he : Tryd.prog.elem 128 = 5 := by kernel_rfl
  have hs : (sizeOf 5).run Tryd.prog w = .ok 1 w := by kernel_rfl
  rw [run_sliceAt_array_h w _ _ run72 .i64 (l : Int) (by omega) (by rw [ha]; omega), he, hs, ha]
  simp [Result.andThen, slicedAt, Addr.add]
theorem cutS_h (g o n c h : Nat) (hc : h ≤ c) (w : World) :
    (Instr.sliceAt 22 (.slice (some ⟨g, o, none⟩) n c) none (some (.int .i64 (h : Int))) none).run Tryd.prog w = .ok (.slice (some ⟨g, o, none⟩) h c) w := by
  have hu : Tryd.prog.underlying 22 = some (.slice (Tryd.prog.elem 22)) := by kernel_rfl
  have he : Tryd.prog.elem 22 = 5 := by kernel_rfl
  have hs : (sizeOf 5).run Tryd.prog w = .ok 1 w := by kernel_rfl
  rw [run_sliceAt_slice _ _ _ _ _ _ hu, run_slice_h w _ _ _ _ hu .i64 (h : Int) (by omega) (by omega), he, hs]
  simp [Result.andThen, sliced, Addr.add]
theorem cutS_l (g o n c l : Nat) (hn : l ≤ n) (hc : l < c) (w : World) :
    (Instr.sliceAt 22 (.slice (some ⟨g, o, none⟩) n c) (some (.int .i64 (l : Int))) none none).run Tryd.prog w = .ok (.slice (some ⟨g, o + l, none⟩) (n - l) (c - l)) w := by
  have hu : Tryd.prog.underlying 22 = some (.slice (Tryd.prog.elem 22)) := by kernel_rfl
  have he : Tryd.prog.elem 22 = 5 := by kernel_rfl
  have hs : (sizeOf 5).run Tryd.prog w = .ok 1 w := by kernel_rfl
  have hne : ¬ c = l := by omega
  rw [run_sliceAt_slice _ _ _ _ _ _ hu, run_slice_l w _ _ _ _ hu .i64 (l : Int) (by omega) (by omega), he, hs]
  simp [Result.andThen, sliced, hne, Addr.add]

theorem Blk.bs {w : World} {e cap : Nat} {T : TypeId} {zs : List Nat} {Y : List Value} (h : Blk w e T (u8s zs ++ Y)) (hz : ∀ z ∈ zs, z < 256) (h0 : 0 < zs.length) (hl : zs.length ≤ 281474976710656) (hc : zs.length ≤ cap) : Bs w (.slice (some ⟨e, 0, none⟩) zs.length cap) zs :=
  ⟨hz, hl, .inr ⟨h0, e, 0, cap, rfl, hc, h.lt, fun i hi => by
    rw [h.cell, Nat.zero_add, List.getElem?_append_left (by simp [u8s]; omega), u8s_get zs i hi]⟩⟩
theorem be8_by4 (n : Nat) (hn : n < 18446744073709551616) : be8 n = by4 (BitVec.ofNat 32 (n / 4294967296)) ++ by4 (BitVec.ofNat 32 n) := by
  have e1 : nt (BitVec.ofNat 32 (n / 4294967296)) = n / 4294967296 := nt_of _ (by omega)
  have e2 : nt (BitVec.ofNat 32 n) = n % 4294967296 := by unfold nt; simp
  unfold be8 by4
  rw [e1, e2]
  simp only [List.range_succ, List.range_zero, List.nil_append, List.cons_append, List.map_cons, List.map_nil]
  simp only [List.cons.injEq, and_true]
  refine ⟨?_, ?_, ?_, ?_, ?_, ?_, ?_, ?_⟩ <;> simp <;> omega
theorem padded_tail (all : List Nat) (N r : Nat) (hN : N = all.length) (hr : r = noughts N) : all ++ (128 :: List.replicate r 0 ++ be8 (8 * N)) = padded all := by
  subst hN hr; simp [padded]

set_option maxRecDepth 100000 in
set_option maxHeartbeats 4000000 in
theorem pad_any {w : World} {g : Nat} {all : List Nat} (hs : Sm w g all) (hk : Kw w) (hh : Hw w) (hg : 2 < g) (hlen : all.length ≤ 1073741000) :
    Calls Tryd.prog 72 #[.pointer (some ⟨g, 0, none⟩)] w fun e w' => e = .returned (.tuple #[]) ∧ Sm w' g (padded all) ∧ But (· = g) w w' := by
  have hcl := hs.len
  have HS := Hid.mk' hs
  have HH := Hid.mk' hh
  have HK := Hid.mk' hk
  have HN := Hid.mk' hlen
  have HG2 := Hid.mk' hg
  obtain ⟨N, hN⟩ : ∃ N, N = all.length := ⟨_, rfl⟩
  rw [← hN] at hcl hlen
  have HNN := Hid.mk' hN
  clear hs hh hk hN
  obtain ⟨q, hq⟩ : ∃ q, q = N % 64 := ⟨_, rfl⟩
  have hrem : (N : Int) % 64 = (q : Int) := by omega
  have hq64 : q < 64 := by omega
  have HQ := Hid.mk' hq
  clear hq
  go_enter Tryd.func72, Tryd.ntmps72
  obtain ⟨r, hr⟩ : ∃ r, r = noughts N := ⟨_, rfl⟩
  have hrem2 : (119 - (q : Int)) % 64 = (r : Int) := by rw [hr]; unfold noughts; have := HQ.out; omega
  have hr64 : r < 64 := by omega
  have HR := Hid.mk' hr
  clear hr
  have hz : ∀ w : World, (zeroValue 128).run Tryd.prog w = .ok (.agg (u8s (List.replicate 72 0)).toArray) w := fun _ => by kernel_rfl
  obtain ⟨C, hC⟩ : ∃ C, C = (u8s (List.replicate 72 0)).toArray := ⟨_, rfl⟩
  rw [← hC] at hz
  have HE0 : Hid (Blk (w.alloc (.cells C 128)) w.heap.size 128 (u8s (List.replicate 72 0))) := by rw [hC]; exact heap_alloc_new _ _
  have he0 : (w.alloc (.cells C 128)).cell? ⟨w.heap.size, 0, none⟩ = some (.int .u8 (0 : Nat)) := by rw [HE0.out.cell]; rfl
  have hf0 := HE0.out.free 0
  have hs1 := cut72 w.heap.size (1 + r) (1 + (r : Int)) (by omega) (by omega)
  have hs2 := cutS_h w.heap.size (1 + r) (72 - (1 + r)) (72 - (1 + r)) 8 (by omega)
  have hs3 := cutS_l w.heap.size (1 + r) 8 (72 - (1 + r)) 4 (by omega) (by omega)
  have hs4 := cut72h w.heap.size (1 + r + 8) (1 + (r : Int) + 8) (by omega) (by omega)
  have hgl := HS.out.lt
  have hclA : ∀ o : Obj, (w.alloc o).cell? ⟨g, 72, none⟩ = some (.int .i64 (N : Int)) := fun o => by rw [← hcl]; exact World.cell?_of_block (heap_alloc_old w o hgl)
  obtain ⟨hi, hhi⟩ : ∃ hi, hi = BitVec.ofNat 32 (8 * N / 4294967296) := ⟨_, rfl⟩
  obtain ⟨lo, hlo⟩ : ∃ lo, lo = BitVec.ofNat 32 (8 * N) := ⟨_, rfl⟩
  have hx1 : (N : Int) * 8 / 4294967296 = (nt hi : Int) := by rw [hhi, nt_of _ (by omega)]; omega
  have hx2 : (N : Int) * 8 % 4294967296 = (nt lo : Int) := by rw [hlo]; unfold nt; simp; omega
  have HBE : Hid (be8 (8 * N) = by4 hi ++ by4 lo) := by show _ = _; rw [hhi, hlo]; exact be8_by4 _ (by omega)
  have HE1 : Hid (Blk (w.alloc (.cells (C.setIfInBounds 0 (.int .u8 128)) 128)) w.heap.size 128 (u8s (128 :: List.replicate r 0) ++ [Value.int .u8 (0 : Nat), Value.int .u8 (0 : Nat), Value.int .u8 (0 : Nat), Value.int .u8 (0 : Nat)] ++ (u8s [0, 0, 0, 0] ++ u8s (List.replicate (63 - r) 0)))) := by
    have e : (C.setIfInBounds 0 (.int .u8 128)) = (u8s (128 :: List.replicate r 0) ++ [Value.int .u8 (0 : Nat), Value.int .u8 (0 : Nat), Value.int .u8 (0 : Nat), Value.int .u8 (0 : Nat)] ++ (u8s [0, 0, 0, 0] ++ u8s (List.replicate (63 - r) 0))).toArray := by
      rw [hC, show 72 = 1 + (r + (4 + (4 + (63 - r)))) by omega]
      simp only [← List.replicate_append_replicate, u8s_append]
      simp [u8s, List.replicate_succ]
    rw [e]; exact heap_alloc_new _ _
  have hb1 : But (fun _ => False) w (w.alloc (.cells (C.setIfInBounds 0 (.int .u8 128)) 128)) := (But.refl _ w).alloc _
  have HB1 := Hid.mk' hb1
  clear hC hhi hlo hb1 HE0
  go_wp2_with fail
  have hA1 : (u8s (128 :: List.replicate r 0)).length = 1 + r := by simp [u8s]; omega
  refine Calls.mono (putWord_any HE1.out hA1 (by omega)) ?_
  rintro e w2 ⟨rfl, hb2, hbut2⟩
  have HB2 := Hid.mk' hb2
  have HBU2 := Hid.mk' hbut2
  clear hb2 hbut2
  go_wp2_with fail
  have hB3 : Blk w2 w.heap.size 128 ((u8s (128 :: List.replicate r 0) ++ u8s (by4 hi)) ++ [Value.int .u8 (0 : Nat), Value.int .u8 (0 : Nat), Value.int .u8 (0 : Nat), Value.int .u8 (0 : Nat)] ++ u8s (List.replicate (63 - r) 0)) := by
    have e : (u8s (128 :: List.replicate r 0) ++ u8s (by4 hi)) ++ [Value.int .u8 (0 : Nat), Value.int .u8 (0 : Nat), Value.int .u8 (0 : Nat), Value.int .u8 (0 : Nat)] ++ u8s (List.replicate (63 - r) 0) = u8s (128 :: List.replicate r 0) ++ u8s (by4 hi) ++ (u8s [0, 0, 0, 0] ++ u8s (List.replicate (63 - r) 0)) := by simp [u8s]
    rw [e]; exact HB2.out
  have hA3 : (u8s (128 :: List.replicate r 0) ++ u8s (by4 hi)).length = 1 + r + 4 := by simp [u8s, by4]; omega
  refine Calls.mono (putWord_any hB3 hA3 (by omega)) ?_
  rintro e w3 ⟨rfl, hb3, hbut3⟩
  have e3 : u8s (128 :: List.replicate r 0) ++ u8s (by4 hi) ++ u8s (by4 lo) ++ u8s (List.replicate (63 - r) 0) = u8s (128 :: List.replicate r 0 ++ be8 (8 * N)) ++ u8s (List.replicate (63 - r) 0) := by
    rw [HBE.out]; simp [u8s]
  rw [e3] at hb3
  have htl : (128 :: List.replicate r 0 ++ be8 (8 * N)).length = 1 + r + 8 := by simp [be8]; omega
  have htb : ∀ z ∈ (128 :: List.replicate r 0 ++ be8 (8 * N)), z < 256 := by
    intro z hz
    simp only [List.mem_append, List.mem_cons, List.mem_replicate, be8, List.mem_map, List.mem_range] at hz
    rcases hz with (hz | hz) | ⟨i, _, hz⟩ <;> omega
  have hbs : Bs w3 (.slice (some ⟨w.heap.size, 0, none⟩) (1 + r + 8) 72) (128 :: List.replicate r 0 ++ be8 (8 * N)) := by
    have h := hb3.bs (cap := 72) htb (by omega) (by omega) (by omega)
    rw [htl] at h; exact h
  have hbut : But (fun _ => False) w w3 := (HB1.out.then HBU2.out (fun i hi e => by omega)).then hbut3 (fun i hi e => by omega)
  have HWR := Hid.mk' (write_any hbs (HS.out.but hbut (fun h => h)) (HK.out.but hbut (fun h => h)) (HH.out.but hbut (fun h => h)) HG2.out (fun _ h => by
    have h' : some w.heap.size = some g := h
    have := Option.some.inj h'
    omega) (by rw [htl]; have := HN.out; omega))
  have HBU := Hid.mk' hbut
  have HPT := Hid.mk' (padded_tail all N r HNN.out HR.out)
  clear hbs htb htl e3 hb3 hbut3 hbut hA3 hB3
  go_wp2_with fail
  refine Calls.mono HWR.out ?_
  rintro e w4 ⟨rfl, hsm4, hbut4⟩
  rw [HPT.out] at hsm4
  have HSM4 := Hid.mk' hsm4
  have HB4 := Hid.mk' ((HBU.out.mono (S := (· = g)) (fun _ _ h => h.elim)).trans hbut4)
  clear hsm4 hbut4
  go_wp2
  go_end0
  exact ⟨rfl, HSM4.out, HB4.out⟩
end Go.Proofs.YtmlladpmecclbaaDoor
/- The program's Sum. -/
namespace Go.Proofs.YtmlladpmecclbaaDoor
open Go.RowKit

theorem cut32 (g l : Nat) (i : Int) (hi : i = (l : Int)) (hl : l < 32) (w : World) :
    (Instr.sliceAt 31 (.pointer (some ⟨g, 0, none⟩)) (some (.int .i64 i)) none none).run Tryd.prog w = .ok (.slice (some ⟨g, l, none⟩) (32 - l) (32 - l)) w := by
  subst hi
  have ha : Tryd.prog.arrayLen 31 = 32 := by kernel_rfl
  have he : Tryd.prog.elem 31 = 5 := by kernel_rfl
  have hu : Tryd.prog.underlying 31 = some (.array (Tryd.prog.arrayLen 31) (Tryd.prog.elem 31)) := by kernel_rfl
  have hs : (sizeOf 5).run Tryd.prog w = .ok 1 w := by kernel_rfl
  rw [run_sliceAt_array_l w _ _ hu .i64 (l : Int) (by omega) (by rw [ha]; omega), he, hs, ha]
  have hne : ¬ (32 = l) := by omega
  simp [Result.andThen, slicedAt, hne, Addr.add]
  intro h; exact h.symm
theorem outb_next (l : List (BitVec 32)) (i : Nat) (hi : i < 8) : (outb l).take (4 * (i + 1)) = (outb l).take (4 * i) ++ by4 (l.getD i 0) := by
  have hx := nt_lt (l.getD i 0)
  have hlen : (outb l).length = 32 := by simp [outb]
  have hg : ∀ j, j < 32 → (outb l).getD j 0 = nt (l.getD (j / 4) 0) / 2 ^ (24 - 8 * (j % 4)) % 256 := by
    intro j hj; simp [outb, List.getD, hj]
  rw [show 4 * (i + 1) = 4 * i + 3 + 1 by omega, take_next' _ (4 * i + 3) (by omega), take_next' _ (4 * i + 2) (by omega), take_next' _ (4 * i + 1) (by omega), take_next' _ (4 * i) (by omega)]
  rw [hg _ (by omega), hg _ (by omega), hg _ (by omega), hg _ (by omega)]
  rw [show (4 * i + 3) / 4 = i by omega, show (4 * i + 2) / 4 = i by omega, show (4 * i + 1) / 4 = i by omega, show 4 * i / 4 = i by omega,
    show (4 * i + 3) % 4 = 3 by omega, show (4 * i + 2) % 4 = 2 by omega, show (4 * i + 1) % 4 = 1 by omega, show 4 * i % 4 = 0 by omega]
  simp [by4]
theorem padded_ne (all : List Nat) : padded all ≠ [] := by
  intro h; have := congrArg List.length h; simp [padded] at this
theorem Holds.outb {all : List Nat} {l : List (BitVec 32)} {z : List Nat} (h : Holds (padded all) l z) : outb l = digest all := by
  rw [h.1]; rfl
theorem u8s_mem_one (zs : List Nat) : ∀ v ∈ u8s zs, v.oneCell' = true := u8s_one zs
theorem sum_one (l : List (BitVec 32)) (z : List Nat) (n : Int) : ∀ v ∈ u32s l ++ (u8s z ++ [Value.int .i64 n]), v.oneCell' = true := by
  intro v hv
  simp only [List.mem_append, List.mem_singleton] at hv
  rcases hv with hv | hv | rfl
  · exact u32s_mem_one l v hv
  · exact u8s_one z v hv
  · rfl

set_option maxRecDepth 100000 in
set_option maxHeartbeats 4000000 in
theorem sum_any {w : World} {po : Option Addr} {all : List Nat} (hs : (po = none ∧ all = []) ∨ ∃ g, po = some ⟨g, 0, none⟩ ∧ Sm w g all) (hk : Kw w) (hh : Hw w) (hlen : all.length ≤ 1073741000) :
    Calls Tryd.prog 65 #[.pointer po] w fun e w' => e = .returned (.agg (u8s (digest all)).toArray) ∧ But (fun _ => False) w w' := by
  have hi46 : (Tryd.prog.info? 115).map (·.size) = some 73 := by kernel_rfl
  have hi43 : (Tryd.prog.info? 102).map (·.size) = some 8 := by kernel_rfl
  have hi25 : (Tryd.prog.info? 31).map (·.size) = some 32 := by kernel_rfl
  have hz : ∀ w : World, (zeroValue 115).run Tryd.prog w = .ok (.agg zero73.toArray) w := fun _ => by kernel_rfl
  have hz2 : ∀ w : World, (zeroValue 31).run Tryd.prog w = .ok (.agg (u8s (List.replicate 32 0)).toArray) w := fun _ => by kernel_rfl
  obtain ⟨Z, hZ⟩ : ∃ Z, Z = zero73.toArray := ⟨_, rfl⟩
  obtain ⟨O, hO⟩ : ∃ O, O = (u8s (List.replicate 32 0)).toArray := ⟨_, rfl⟩
  rw [← hZ] at hz
  rw [← hO] at hz2
  have h2 : 2 < w.heap.size := hk.lt
  have HK := Hid.mk' hk
  have HH := Hid.mk' hh
  have HN := Hid.mk' hlen
  clear hk hh hlen
  have HR0 : Hid (Blk ((w.alloc (.cells O 31)).alloc (.cells Z 115)) w.heap.size 31 (u8s (List.replicate 32 0))) := by
    rw [hO]
    exact (Blk.new rfl).but ((But.refl (fun _ => False) _).alloc _) (fun h => h)
  have HP0 : Hid (Blk ((w.alloc (.cells O 31)).alloc (.cells Z 115)) (w.heap.size + 1) 115 zero73) := by
    rw [hZ]; exact Blk.new (by simp)
  have HB0 : Hid (But (fun _ => False) w ((w.alloc (.cells O 31)).alloc (.cells Z 115))) := ((But.refl _ w).alloc _).alloc _
  clear hZ
  have HO := Hid.mk' hO
  clear hO
  go_enter Tryd.func65, Tryd.ntmps65
  rcases hs with ⟨rfl, hall⟩ | ⟨g, rfl, hsm⟩
  case' inl =>
    go_wp2_with fail
    obtain ⟨w1, hw1⟩ : ∃ w1, w1 = ((w.alloc (.cells O 31)).alloc (.cells Z 115)) := ⟨_, rfl⟩
    rw [← hw1] at HR0 HP0 HB0 ⊢
    have HS1 : Hid (Sm w1 (w.heap.size + 1) all) := by rw [hall]; exact Sm.zero HP0.out
    have HR1 := HR0
    have HB1 := HB0
    clear hw1 hall HP0
  case' inr =>
    obtain ⟨l, z, hb, hl8, hz64, hzb, hho⟩ := hsm
    obtain ⟨L, hL⟩ : ∃ L, L = u32s l ++ (u8s z ++ [Value.int .i64 ((all.length : Nat) : Int)]) := ⟨_, rfl⟩
    have HLL : Hid (L.length = 73) := by show _ = _; rw [hL]; simp [hl8, u8s, hz64]
    have HL1 : Hid (∀ v ∈ L, v.oneCell' = true) := by rw [hL]; exact sum_one l z _
    have HBG : Hid (Blk ((w.alloc (.cells O 31)).alloc (.cells Z 115)) g 115 L) := by rw [hL]; exact hb.but HB0.out (fun h => h)
    have HSM : Hid (∀ w' : World, Blk w' (w.heap.size + 1) 115 L → Sm w' (w.heap.size + 1) all) := by
      intro w' h; exact ⟨l, z, by rw [← hL]; exact h, hl8, hz64, hzb, hho⟩
    obtain ⟨w0, hw0⟩ : ∃ w0, w0 = ((w.alloc (.cells O 31)).alloc (.cells Z 115)) := ⟨_, rfl⟩
    rw [← hw0] at HR0 HP0 HB0 HBG
    have KL : Hid (∀ (ops : Array Oper) (rest : List Oper) (o : Oper) (a : Act) (Q : Exit → Act → World → Prop) (x : Operand), o.guard = none → o.op = .load 115 x → a.eval x = .pointer (some ⟨g, 0, none⟩) → wpList Tryd.prog ops Q rest (a.put o.dst (.agg L.toArray)) w0 → wpList Tryd.prog ops Q (o :: rest) a w0) :=
      fun ops rest o a Q x h1 h2 h3 h4 => wpList_load_row h1 115 x h2 g h3 115 L.toArray (0, 0) _ HBG.out Tryd.underlying115 rfl (by rw [List.size_toArray, HLL.out]; exact hi46) h4
    have KS : Hid (∀ (ops : Array Oper) (rest : List Oper) (o : Oper) (a : Act) (Q : Exit → Act → World → Prop) (x y : Operand), o.guard = none → o.op = .store 115 x y → a.eval x = .pointer (some ⟨w.heap.size + 1, 0, none⟩) → a.eval y = .agg L.toArray → (∀ w', Sm w' (w.heap.size + 1) all → But (· = w.heap.size + 1) w0 w' → wpList Tryd.prog ops Q rest (a.put o.dst undef) w') → wpList Tryd.prog ops Q (o :: rest) a w0) := by
      intro ops rest o a Q x y h1 h2 h3 h4 h5
      refine wpList_store_at h1 115 x y h2 (w.heap.size + 1) 0 L h3 h4 115 [] zero73 [] (by simpa using HP0.out) rfl (by rw [HLL.out]; rfl) (by rw [HLL.out]; exact hi46) HL1.out ?_
      intro w' hb' hb2
      exact h5 w' (HSM.out w' (by simpa using hb')) hb2
    rw [hw0] at KL KS HR0 HB0
    obtain ⟨C, hC⟩ : ∃ C, C = L.toArray := ⟨_, rfl⟩
    rw [← hC] at KL KS
    clear hb hl8 hz64 hzb hho hL hC
    go_wp2_with (first
      | (refine KL.out _ _ _ _ _ _ rfl rfl rfl ?_)
      | (refine KS.out _ _ _ _ _ _ _ rfl rfl rfl (by exact rfl) ?_; intro w1 hsm1 hbut1))
    have HS1 := Hid.mk' hsm1
    have HR1 := Hid.mk' (HR0.out.but hbut1 (by omega))
    have HB1 := Hid.mk' (HB0.out.then hbut1 (fun i hi e => by omega))
    clear hsm1 hbut1 KL KS HSM HBG HLL HL1 HP0 hw0
  all_goals
    clear HR0 HB0
    have hs1 := HB1.out.size
    refine Calls.mono (pad_any HS1.out (HK.out.but HB1.out (fun h => h)) (HH.out.but HB1.out (fun h => h)) (by omega) HN.out) ?_
    rintro e w2 ⟨rfl, hsm2, hbut2⟩
    obtain ⟨l2, z2, hb2, hl2, _, _, hho2⟩ := hsm2
    have HOUT := Hid.mk' (hho2 (padded_ne all)).outb
    have HL2 := Hid.mk' hl2
    have HB2 := Hid.mk' hb2
    have HBU2 := Hid.mk' (HB1.out.then hbut2 (fun i hi e => by omega))
    have HR2 := Hid.mk' (HR1.out.but hbut2 (by omega))
    clear hho2 hb2 hl2 hbut2
    obtain ⟨D, hD⟩ : ∃ D, D = digest all := ⟨_, rfl⟩
    rw [← hD] at HOUT
    have HD := Hid.mk' hD
    clear hD
    have KL : Hid (∀ (wx : World), wx.heap[w.heap.size + 1]? = w2.heap[w.heap.size + 1]? → ∀ (ops : Array Oper) (rest : List Oper) (o : Oper) (a : Act) (Q : Exit → Act → World → Prop) (x : Operand), o.guard = none → o.op = .load 102 x → a.eval x = .pointer (some ⟨w.heap.size + 1, 0, none⟩) → wpList Tryd.prog ops Q rest (a.put o.dst (.agg (u32s l2).toArray)) wx → wpList Tryd.prog ops Q (o :: rest) a wx) :=
      fun wx hx ops rest o a Q x h1 h2 h3 h4 => wpList_load_cells h1 102 x h2 _ h3 (u32s l2) _ (by
        intro j v hv
        have hj : j < (u32s l2).length := (List.getElem?_eq_some_iff.1 hv).1
        have e : (⟨w.heap.size + 1, 0, none⟩ : Addr).add j = ⟨w.heap.size + 1, j, none⟩ := by unfold Addr.add; split <;> simp_all
        have hbx : Blk wx (w.heap.size + 1) 115 _ := hx.trans HB2.out
        rw [e, hbx.cell, List.getElem?_append_left hj]; exact hv) Tryd.underlying102 rfl (by rw [List.length_map, HL2.out]; exact hi43) h4
    obtain ⟨C2, hC2⟩ : ∃ C2, C2 = (u32s l2).toArray := ⟨_, rfl⟩
    rw [← hC2] at KL
    have HIX : Hid (∀ k : Nat, k < 8 → ∀ w, (Instr.index 102 (.agg C2) (.int .i64 (k : Int))).run Tryd.prog w = .ok (.int .u32 (nt (l2.getD k 0) : Int)) w) := by
      intro k hk
      refine idx_u32 102 8 Tryd.underlying102 _ k _ hk ?_
      have := HL2.out
      rw [hC2]
      simp [u32s, List.getElem?_eq_getElem (show k < l2.length by omega)]
    clear hC2
    have hgl2 : w.heap.size + 1 < w2.heap.size := HB2.out.lt
    have halloc : ∀ o : Obj, (w2.alloc o).heap[w.heap.size + 1]? = w2.heap[w.heap.size + 1]? := fun o => heap_alloc_old w2 o hgl2
    have HAL := Hid.mk' halloc
    clear halloc
    go_wp2_with (refine KL.out _ (by exact HAL.out _) _ _ _ _ _ _ rfl rfl rfl ?_)
    have HW3 : Hid (Blk (w2.alloc (.cells O 31)) w2.heap.size 31 (u8s (D.take (4 * 0) ++ List.replicate (32 - 4 * 0) 0))) := by
      rw [HO.out]; exact Blk.new rfl
    have hsz2 := HBU2.out.size
    go_loopw [15] (fun i wr => ∃ k : Nat, k ≤ 8 ∧ i = .int .i64 k ∧ Blk wr w2.heap.size 31 (u8s (D.take (4 * k) ++ List.replicate (32 - 4 * k) 0)) ∧ But (fun _ => False) w2 wr) (fun i _ => 8 - (intOf i).toNat)
    case atStart => exact ⟨0, by decide, rfl, HW3.out, (But.refl _ _).alloc _⟩
    case round =>
      obtain ⟨k, hk8, rfl, hblk, hbk⟩ := hrel
      by_cases h8 : k < 8
      · have hix := HIX.out k h8
        have h8i : (k : Int) < 8 := by omega
        have hcut := cut32 w2.heap.size (4 * k) (4 * (k : Int)) (by omega) (by omega)
        have hnx := outb_next l2 k h8
        rw [HOUT.out] at hnx
        have hdl : D.length = 32 := by rw [← HOUT.out]; simp [outb]
        have hb' : Blk wr w2.heap.size 31 (u8s (D.take (4 * k)) ++ [Value.int .u8 (0 : Nat), Value.int .u8 (0 : Nat), Value.int .u8 (0 : Nat), Value.int .u8 (0 : Nat)] ++ u8s (List.replicate (28 - 4 * k) 0)) := by
          have e : u8s (D.take (4 * k)) ++ [Value.int .u8 (0 : Nat), Value.int .u8 (0 : Nat), Value.int .u8 (0 : Nat), Value.int .u8 (0 : Nat)] ++ u8s (List.replicate (28 - 4 * k) 0) = u8s (D.take (4 * k) ++ List.replicate (32 - 4 * k) 0) := by
            rw [show 32 - 4 * k = 4 + (28 - 4 * k) by omega]
            simp only [← List.replicate_append_replicate, u8s_append]
            simp [u8s, List.replicate_succ]
          rw [e]; exact hblk
        have HPW := Hid.mk' (putWord_any (n := 32 - 4 * k) (c := 32 - 4 * k) (x := l2.getD k 0) hb' (show (u8s (D.take (4 * k))).length = 4 * k by simp [u8s, hdl]; omega) (by omega))
        have HNX := Hid.mk' hnx
        clear hb' hnx hdl hblk
        go_wp2_with (go_at_call 73; refine Calls.mono HPW.out ?_; rintro e w4 ⟨rfl, hb4, hbut4⟩)
        refine ⟨⟨k + 1, by omega, by go_num, ?_, hbk.then hbut4 (fun i hi e => by omega)⟩, by simp [intOf]; omega⟩
        rw [HNX.out, u8s_append, u8s_append, show 32 - 4 * (k + 1) = 28 - 4 * k by omega]
        exact hb4
      · have hge : ¬ ((k : Int) < 8) := by omega
        have hk : k = 8 := by omega
        have hD : D.take (4 * k) ++ List.replicate (32 - 4 * k) 0 = D := by
          have hdl : D.length = 32 := by rw [← HOUT.out]; simp [outb]
          rw [hk]; simp; exact List.take_of_length_le (by omega)
        rw [hD] at hblk
        have hdl : (u8s D).length = 32 := by rw [← HOUT.out]; simp [outb, u8s]
        have hRw : Blk wr w.heap.size 31 (u8s (List.replicate 32 0)) := HR2.out.but hbk (fun h => h)
        have HBF := Hid.mk' (HBU2.out.trans hbk)
        have KL2 : Hid (∀ (ops : Array Oper) (rest : List Oper) (o : Oper) (a : Act) (Q : Exit → Act → World → Prop) (x : Operand), o.guard = none → o.op = .load 31 x → a.eval x = .pointer (some ⟨w2.heap.size, 0, none⟩) → wpList Tryd.prog ops Q rest (a.put o.dst (.agg (u8s D).toArray)) wr → wpList Tryd.prog ops Q (o :: rest) a wr) :=
          fun ops rest o a Q x h1 h2 h3 h4 => wpList_load_row h1 31 x h2 w2.heap.size h3 31 (u8s D).toArray (0, 0) _ hblk Tryd.underlying31 rfl (by rw [List.size_toArray, hdl]; exact hi25) h4
        have KS2 : Hid (∀ (ops : Array Oper) (rest : List Oper) (o : Oper) (a : Act) (Q : Exit → Act → World → Prop) (x y : Operand), o.guard = none → o.op = .store 31 x y → a.eval x = .pointer (some ⟨w.heap.size, 0, none⟩) → a.eval y = .agg (u8s D).toArray → (∀ w', Blk w' w.heap.size 31 (u8s D) → But (· = w.heap.size) wr w' → wpList Tryd.prog ops Q rest (a.put o.dst undef) w') → wpList Tryd.prog ops Q (o :: rest) a wr) := by
          intro ops rest o a Q x y h1 h2 h3 h4 h5
          refine wpList_store_at h1 31 x y h2 w.heap.size 0 (u8s D) h3 h4 31 [] (u8s (List.replicate 32 0)) [] (by simpa using hRw) rfl (by rw [hdl]; rfl) (by rw [hdl]; exact hi25) (u8s_one _) ?_
          intro w' hb' hb2
          exact h5 w' (by simpa using hb') hb2
        have HDL := Hid.mk' hdl
        obtain ⟨C3, hC3⟩ : ∃ C3, C3 = (u8s D).toArray := ⟨_, rfl⟩
        rw [← hC3] at KL2 KS2
        clear hdl hblk hRw hbk hk hD hC3 h8 hk8
        go_wp2_with (first
          | (refine KL2.out _ _ _ _ _ _ rfl rfl rfl ?_)
          | (refine KS2.out _ _ _ _ _ _ _ rfl rfl rfl (by exact rfl) ?_; intro w5 hb5 hbut5))
        refine bodyPost_ret (results_cell_row rfl _ _ w.heap.size _ _ _ _ rfl hb5 Tryd.underlying31 rfl (by rw [List.size_toArray, HDL.out]; exact hi25)) rfl ⟨by rw [HD.out], ?_⟩
        exact HBF.out.then hbut5 (fun i hi e => by omega)
end Go.Proofs.YtmlladpmecclbaaDoor
/- The program's Of. -/
namespace Go.Proofs.YtmlladpmecclbaaDoor
open Go.RowKit

set_option maxRecDepth 100000 in
set_option maxHeartbeats 4000000 in
theorem of_any {w : World} {v : Value} {xss : List (List Nat)} (hv : Ps w v xss) (hk : Kw w) (hh : Hw w) (hlen : xss.flatten.length ≤ 1073741000) (hxl : xss.length ≤ 281474976710656) :
    Calls Tryd.prog 50 #[v] w fun e w' => e = .returned (.agg (u8s (digest xss.flatten)).toArray) ∧ But (fun _ => False) w w' := by
  have hi25 : (Tryd.prog.info? 31).map (·.size) = some 32 := by kernel_rfl
  have hz : ∀ w : World, (zeroValue 115).run Tryd.prog w = .ok (.agg zero73.toArray) w := fun _ => by kernel_rfl
  obtain ⟨Z, hZ⟩ : ∃ Z, Z = zero73.toArray := ⟨_, rfl⟩
  have hz2 : ∀ w : World, (zeroValue 31).run Tryd.prog w = .ok (.agg (u8s (List.replicate 32 0)).toArray) w := fun _ => by kernel_rfl
  obtain ⟨O, hO⟩ : ∃ O, O = (u8s (List.replicate 32 0)).toArray := ⟨_, rfl⟩
  rw [← hZ] at hz
  rw [← hO] at hz2
  have h2 : 2 < w.heap.size := hk.lt
  have HK := Hid.mk' hk
  have HH := Hid.mk' hh
  have HN := Hid.mk' hlen
  have HR0 : Hid (Blk ((w.alloc (.cells O 31)).alloc (.cells Z 115)) w.heap.size 31 (u8s (List.replicate 32 0))) := by
    rw [hO]
    exact (Blk.new rfl).but ((But.refl (fun _ => False) _).alloc _) (fun h => h)
  have HS0 : Hid (Sm ((w.alloc (.cells O 31)).alloc (.cells Z 115)) (w.heap.size + 1) (xss.take 0).flatten) := by
    rw [hZ]; exact Sm.zero (Blk.new (by simp))
  have HB0 : Hid (But (fun _ => False) w ((w.alloc (.cells O 31)).alloc (.cells Z 115))) := ((But.refl _ w).alloc _).alloc _
  obtain ⟨ao, cap, rfl, hps⟩ := hv.gen
  have HPS := Hid.mk' hps
  have HFN := Hid.mk' (flat_next xss)
  have HFL := Hid.mk' (flat_le xss)
  obtain ⟨F, hF⟩ : ∃ F : Nat → List Nat, F = fun k => (xss.take k).flatten := ⟨_, rfl⟩
  obtain ⟨G, hG⟩ : ∃ G : Nat → List Nat, G = fun k => xss.getD k [] := ⟨_, rfl⟩
  obtain ⟨n, hn⟩ : ∃ n, n = xss.length := ⟨_, rfl⟩
  have HF : Hid (∀ k, k < n → F (k + 1) = F k ++ G k) := by rw [hn, hF, hG]; exact HFN.out
  have HF0 : Hid (F 0 = (xss.take 0).flatten) := by rw [hF]; rfl
  have HFE : Hid (F n = xss.flatten) := by show _ = _; rw [hF, hn]; simp
  have HFB : Hid (∀ k, (F k).length ≤ 1073741000) := by rw [hF]; intro k; exact Nat.le_trans (HFL.out k) HN.out
  have HPG : Hid (0 < n → ∃ b off, ao = some ⟨b, off, none⟩ ∧ b < w.heap.size ∧ ∀ i, i < n → ∃ u, w.cell? ⟨b, off + i, none⟩ = some u ∧ Bs w u (G i)) := by rw [hn, hG]; exact HPS.out
  rw [← hn] at hxl ⊢
  rw [← HFE.out]
  rw [← HF0.out] at HS0
  clear hv hk hh hlen hps HFN HFL hF hG hn HPS HF0 hZ hO HFE HN
  go_enter Tryd.func50, Tryd.ntmps50
  go_wp2
  go_loopw [8] (fun i wr => ∃ k : Nat, k ≤ n ∧ i = .int .i64 k ∧ Sm wr (w.heap.size + 1) (F k) ∧ Blk wr w.heap.size 31 (u8s (List.replicate 32 0)) ∧ But (fun _ => False) w wr) (fun i _ => n - (intOf i).toNat)
  case atStart => exact ⟨0, Nat.zero_le _, rfl, HS0.out, HR0.out, HB0.out⟩
  case round =>
    obtain ⟨k, hkn, rfl, hsm, hr, hbt⟩ := hrel
    have HR := Hid.mk' hr
    have HBT := Hid.mk' hbt
    have HSM := Hid.mk' hsm
    have hszr := hbt.size
    have HKr := Hid.mk' (HK.out.but hbt (fun h => h))
    have HHr := Hid.mk' (HH.out.but hbt (fun h => h))
    clear hr hbt hsm
    by_cases hlt : k < n
    · obtain ⟨b, off, rfl, hb, hc⟩ := HPG.out (by omega)
      obtain ⟨u, hu, hbs⟩ := hc k hlt
      have hu' : wr.cell? ⟨b, off + k, none⟩ = some u := (World.cell?_of_block (HBT.out.block b hb (fun h => h))).trans hu
      have hbs' : Bs wr u (G k) := hbs.but HBT.out (fun _ _ _ h => h)
      have hlti : (k : Int) < (n : Int) := by omega
      have hle := HFB.out (k + 1)
      rw [HF.out k hlt, List.length_append] at hle
      have HWR := Hid.mk' (write_any hbs' HSM.out HKr.out HHr.out (by omega) (fun h0 => hbs.own h0 (by omega)) (by omega))
      rw [← HF.out k hlt] at HWR
      obtain ⟨au, cu, rfl, _, _⟩ := hbs.gen
      clear hu hbs hbs' hle hc
      go_wp2_with (go_at_call 64; refine Calls.mono HWR.out ?_; rintro e w4 ⟨rfl, hsm4, hbut4⟩)
      refine ⟨⟨k + 1, by omega, by go_num, hsm4, HR.out.but hbut4 (by omega), HBT.out.then hbut4 (fun i hi e => by omega)⟩, by simp [intOf]; omega⟩
    · have hge : ¬ ((k : Int) < (n : Int)) := by omega
      obtain rfl : k = n := by omega
      have HSU := Hid.mk' (sum_any (.inr ⟨_, rfl, HSM.out⟩) HKr.out HHr.out (HFB.out k))
      obtain ⟨D, hD⟩ : ∃ D, D = digest (F k) := ⟨_, rfl⟩
      have hdl : (u8s D).length = 32 := by rw [hD]; simp [digest, outb, u8s]
      rw [← hD] at HSU
      have HD := Hid.mk' hD
      have KS2 : Hid (∀ (w6 : World), But (fun _ => False) wr w6 → ∀ (ops : Array Oper) (rest : List Oper) (o : Oper) (a : Act) (Q : Exit → Act → World → Prop) (x y : Operand), o.guard = none → o.op = .store 31 x y → a.eval x = .pointer (some ⟨w.heap.size, 0, none⟩) → a.eval y = .agg (u8s D).toArray → (∀ w', Blk w' w.heap.size 31 (u8s D) → But (· = w.heap.size) w6 w' → wpList Tryd.prog ops Q rest (a.put o.dst undef) w') → wpList Tryd.prog ops Q (o :: rest) a w6) := by
        intro w6 hb6 ops rest o a Q x y h1 h2 h3 h4 h5
        have hRw := HR.out.but hb6 (fun h => h)
        refine wpList_store_at h1 31 x y h2 w.heap.size 0 (u8s D) h3 h4 31 [] (u8s (List.replicate 32 0)) [] (by simpa using hRw) rfl (by rw [hdl]; rfl) (by rw [hdl]; exact hi25) (u8s_one _) ?_
        intro w' hb' hb2
        exact h5 w' (by simpa using hb') hb2
      have HDL := Hid.mk' hdl
      clear hdl hD
      go_wp2_with (first
        | (go_at_call 65; refine Calls.mono HSU.out ?_; rintro e w4 ⟨rfl, hbut4⟩)
        | (refine KS2.out _ hbut4 _ _ _ _ _ _ _ rfl rfl rfl (by exact rfl) ?_; intro w5 hb5 hbut5))
      refine bodyPost_ret (results_cell_row rfl _ _ w.heap.size _ _ _ _ rfl hb5 Tryd.underlying31 rfl (by rw [List.size_toArray, HDL.out]; exact hi25)) rfl ⟨by rw [HD.out], ?_⟩
      exact (HBT.out.trans hbut4).then hbut5 (fun i hi e => by omega)
end Go.Proofs.YtmlladpmecclbaaDoor
/- What the program's two tables hold, by the row's condition. -/
namespace Go.Proofs.YtmlladpmecclbaaDoor
open Go.ChangeShapes Go.WideShapes Go.ChangeAt Go.RowKit

theorem Tryd.own : ownKnob Tryd.prog.godebug = none := by kernel_rfl
theorem Tryd.laidOut : laidOutB Tryd.prog = true := by kernel_rfl
theorem gStart : Tryd.prog.globalNamed ((Rows.treePathsRow.laid.map Prod.fst).getD 0 "") = some 0 := by kernel_rfl
theorem gWords : Tryd.prog.globalNamed ((Rows.treePathsRow.laid.map Prod.fst).getD 1 "") = some 2 := by kernel_rfl
theorem tStart : (Tryd.prog.globals[0]?).map (·.type) = some 102 := by kernel_rfl
theorem tWords : (Tryd.prog.globals[2]?).map (·.type) = some 100 := by kernel_rfl
theorem cells42 : Tryd.prog.cellsOf 90 = 1 := by kernel_rfl

theorem row_of_trod {H : Type} {enc : TypeId × Value → H} {W : World} {base : Nat} {sp : Nat → Bool} {held : Bool} {n t m : Nat} (ht : Tryd.prog.underlying t = some (.array n 90)) {cs : Array Value} {zs : List Int} {ps : List MemPlace}
    (h : DataW.trod enc Tryd.prog W base sp held m t cs.toList = some (.agg (zs.map fun z => .lit (.int .u32 z)), ps)) : ∀ i, i < n → cs[i]? = some (.int .u32 (zs.getD i 0)) := by
  obtain ⟨xs, m1, rfl, hx1, hlen, hn3, hel⟩ := DataW.trod_array ht h
  intro i hi
  have h0 := hel i hi
  simp only [Prod.mk.injEq, DataW.agg.injEq] at hx1
  obtain ⟨x, hx⟩ : ∃ x, xs[i]? = some x := ⟨_, List.getElem?_eq_getElem (by omega)⟩
  rw [hx] at h0
  obtain ⟨k, e1, e2, _⟩ := DataW.trod_int Tryd.underlying90 h0
  have e3 := congrArg (·[i]?) hx1.1
  simp only [List.getElem?_map, hx, Option.map_some, e2] at e3
  have hz : zs[i]? = some k := by
    cases hq : zs[i]? with
    | none => rw [hq] at e3; simp at e3
    | some y => rw [hq] at e3; simp at e3; rw [e3]
  have hg : zs.getD i 0 = k := by simp [List.getD, hz]
  rw [hg]
  rw [cells42, Nat.mul_one] at e1
  have e4 : (cs.toList.drop i)[0]? = some (.int .u32 k) := by
    have := congrArg (·[0]?) e1
    simpa using this
  simpa using e4

abbrev laidTwo : List (String × DataW Unit) := Rows.treePathsRow.laid
def startZ : List Int := hws.map fun x => (nt x : Int)
def wordsZ : List Int := kws.map fun x => (nt x : Int)
theorem startD : (Rows.laid_thimble_sha_start : DataW Unit) = .agg (startZ.map fun z => .lit (.int .u32 z)) := by rfl
theorem wordsD : (Rows.laid_thimble_sha_roundWords : DataW Unit) = .agg (wordsZ.map fun z => .lit (.int .u32 z)) := by rfl

theorem of_laid {W : World} (h : laidMetH Tryd.prog laidTwo W) : Hw W ∧ Kw W := by
  rw [MakeChecks.laidMetH_plain _ _ _ (by kernel_rfl)] at h
  obtain ⟨ps, ⟨g0, t0, cs0, f0, p0, q0, hg0, ht0, hv0, hd0, ⟨g1, t1, cs1, f1, p1, q1, hg1, ht1, hv1, hd1, _, _⟩, _⟩, _, _⟩ := h
  obtain rfl := Option.some.inj (gStart.symm.trans hg0)
  obtain rfl := Option.some.inj (gWords.symm.trans hg1)
  obtain rfl := Option.some.inj (tStart.symm.trans ht0)
  obtain rfl := Option.some.inj (tWords.symm.trans ht1)
  rw [startD] at hd0
  rw [wordsD] at hd1
  have c0 := row_of_trod Tryd.underlying102 hd0
  have c1 := row_of_trod Tryd.underlying100 hd1
  refine ⟨fun i hi => ?_, fun i hi => ?_⟩
  · have h := World.var?_cell hg0 hv0 i
    rw [c0 i hi] at h
    have e : startZ.getD i 0 = (nt (hws.getD i 0) : Int) := by
      have hl : i < hws.length := hi
      simp [startZ, List.getD, hl]
    rw [e] at h; exact h
  · have h := World.var?_cell hg1 hv1 i
    rw [c1 i hi] at h
    have e : wordsZ.getD i 0 = (nt (kws.getD i 0) : Int) := by
      have hl : i < kws.length := hi
      simp [wordsZ, List.getD, hl]
    rw [e] at h; exact h
theorem door_met (os : Os) (args : Array Value) : laidMetH Tryd.prog laidTwo ((World.doorLaid Tryd.prog 19 os).forCall (fun _ _ => 0) ⟨#[], args, []⟩).memory :=
  laidMetH_of_parts3 (fuel := 8) (laidMet_of_run' 8 (by kernel_rfl) (by kernel_rfl)) (by kernel_rfl) (by kernel_rfl)
end Go.Proofs.YtmlladpmecclbaaDoor
/- Two digests that are the same. -/
namespace Go.Proofs.YtmlladpmecclbaaDoor
open Go.RowKit

theorem eqItems_same (D : List Nat) (d : Nat) (w : World) (is : List Nat) (h : ∀ j ∈ is, j < D.length) :
    (Op.eqItems (d + 1) 5 1 (u8s D).toArray (u8s D).toArray is).run Tryd.prog w = .ok true w := by
  induction is with
  | nil => simp [Op.eqItems]
  | cons j is ih =>
    have hj := h j (by simp)
    have hc : (u8s D).toArray[j * 1]? = some (.int .u8 (D.getD j 0 : Nat)) := by
      rw [Nat.mul_one, List.getElem?_toArray]; exact u8s_get D j hj
    have h2 : (isAgg 5).run Tryd.prog w = .ok false w := by kernel_rfl
    have hp : (part 5 (u8s D).toArray (j * 1)).run Tryd.prog w = .ok (.int .u8 (D.getD j 0 : Nat)) w := by
      unfold part
      rw [Sem.run_bind, h2, Result.andThen_ok, hc]
      rfl
    simp only [Op.eqItems, Sem.run_bind, hp, Result.andThen_ok]
    rw [run_equalIn_int w d 5 .u8 .u8 _ _ Tryd.underlying5]
    simp
    exact ih (fun k hk => h k (by simp [hk]))
theorem equal_same (D : List Nat) (hD : D.length = 32) (w : World) : (Op.equalIn 10000 31 (.agg (u8s D).toArray) (.agg (u8s D).toArray)).run Tryd.prog w = .ok true w := by
  obtain ⟨i, hi⟩ : ∃ i, Tryd.prog.info? 5 = some i := by
    obtain ⟨i0, hi, _⟩ := info_parts u8info
    exact ⟨i0, hi⟩
  have hc : Tryd.prog.cellsOf 5 = 1 := by kernel_rfl
  rw [run_equalIn_array w 9999 _ _ Tryd.underlying31 hi, hc]
  exact eqItems_same D 9998 w _ (by intro j hj; rw [hD]; simpa using hj)
theorem eql_same (D : List Nat) (hD : D.length = 32) (w : World) : (binOp .eql 31 (.agg (u8s D).toArray) (.agg (u8s D).toArray)).run Tryd.prog w = .ok (.bool true) w := by
  rw [run_eql_struct, equal_same D hD w]; rfl
theorem neq_same (D : List Nat) (hD : D.length = 32) (w : World) : (binOp .neq 31 (.agg (u8s D).toArray) (.agg (u8s D).toArray)).run Tryd.prog w = .ok (.bool false) w := by
  rw [run_neq_struct, equal_same D hD w]; rfl
end Go.Proofs.YtmlladpmecclbaaDoor
/- ghost: Hash. -/
namespace Go.Proofs.YtmlladpmecclbaaDoor
open Go.RowKit

theorem digest_wf (xs : List Nat) : wf32 (digest xs) := by
  refine ⟨by simp [digest, outb], fun z hz => ?_⟩
  simp only [digest, outb, List.mem_map, List.mem_range] at hz
  obtain ⟨i, _, rfl⟩ := hz
  exact Nat.mod_lt _ (by decide)
theorem LgTo.grow {w W W' : World} {own : Owner} {gl : Nat} {P : List Pr} {S O : List Tup} (h : LgTo w own gl P S O W) (k : Grow W W') : LgTo w own gl P S O W' := by
  obtain ⟨own', h1, h2, h3⟩ := h.ex
  exact ⟨h.but.trans (k.mono (fun _ _ h => h.elim)), own', h1, h2, h3.but k (fun _ _ h => h)⟩
/-- Only blocks that aren't the log's, or are new, turned on the way to it. -/
theorem LgTo.from {w W W' : World} {own : Owner} {gl : Nat} {P : List Pr} {S O : List Tup} {R : Nat → Prop} (k : But R w W) (hr : ∀ b, b < w.heap.size → R b → own b ≠ .none) (h : LgTo W own gl P S O W') : LgTo w own gl P S O W' := by
  obtain ⟨own', h1, h2, h3⟩ := h.ex
  exact ⟨(k.mono (fun b hb e => hr b hb e)).trans h.but, own', h1, fun b hb => Nat.le_trans k.size (h2 b hb), h3⟩
def z32 : List Nat := List.replicate 32 0
theorem z32v (w : World) : (zeroValue 31).run Tryd.prog w = .ok (.agg (u8s z32).toArray) w := by kernel_rfl
set_option maxRecDepth 100000 in
set_option maxHeartbeats 8000000 in
theorem hash_nil {w : World} {v : Value} {xss : List (List Nat)} (hv : Ps w v xss) (hk : Kw w) (hh : Hw w) (hlen : xss.flatten.length ≤ 1000000) (hxl : xss.length ≤ 100000) :
    Calls Tryd.prog 33 #[.pointer none, v] w fun e w' => e = .returned (dkey (digest xss.flatten)) ∧ Grow w w' := by
  obtain ⟨Z, hZ⟩ : ∃ Z, Z = u8s z32 := ⟨_, rfl⟩
  have hz := z32v
  rw [← hZ] at hz
  have HZL : Hid (Z.length = 32) := by show _ = _; rw [hZ]; rfl
  obtain ⟨g0, hg0⟩ : ∃ g, g = w.heap.size := ⟨_, rfl⟩
  obtain ⟨W0, hW0⟩ : ∃ W0, W0 = w.alloc (.cells Z.toArray 31) := ⟨_, rfl⟩
  have hT0 : Grow w W0 := by rw [hW0]; exact (But.refl _ w).alloc _
  have HR0 : Hid (Blk W0 g0 31 Z) := by show Blk _ _ _ _; rw [hW0]; exact Blk.new hg0.symm
  have HOF := Hid.mk' (of_any (hv.below hT0) (hk.but hT0 (fun h => h)) (hh.but hT0 (fun h => h)) (by omega) (by omega))
  obtain ⟨D, hD⟩ : ∃ D, D = digest xss.flatten := ⟨_, rfl⟩
  have HDW : Hid (wf32 D) := by show wf32 _; rw [hD]; exact digest_wf _
  rw [← hD] at HOF ⊢
  have HT0 := Hid.mk' hT0
  have HG0 := Hid.mk' hg0
  have HW0 := Hid.mk' hW0
  have HDL : Hid (D.length = 32) := HDW.out.1
  clear hv hk hh hlen hxl hZ hg0 hW0 hT0 hD
  go_enter Tryd.func33, Tryd.ntmps33
  go_wp2_with fail
  rw [← HW0.out, ← HG0.out]
  refine Calls.mono HOF.out ?_
  rintro e W1 ⟨rfl, hg1⟩
  have HG1 := Hid.mk' (HT0.out.trans hg1)
  have HR1 := Hid.mk' (HR0.out.but hg1 (fun h => h))
  have HBZ : Hid (Blk (W1.alloc (.cells Z.toArray 31)) W1.heap.size 31 Z) := Blk.new rfl
  clear hg1
  go_wp2_with (first
    | (refine wpList_store_u8s i32 rfl _ _ rfl W1.heap.size D HDL.out rfl rfl Z HZL.out HBZ.out ?_; intro W2 hb2 hbut2; have HB2 := Hid.mk' hb2; have HR2 := Hid.mk' ((HR1.out.but (R := fun _ => False) ((But.refl _ W1).alloc _) (fun h => h)).but hbut2 (show ¬ (g0 = W1.heap.size) by have := HR1.out.lt; omega)))
    | (refine wpList_load_u8s ukt i32 rfl _ rfl W1.heap.size D HDL.out rfl HB2.out ?_)
    | (refine wpList_store_u8s i32 rfl _ _ rfl g0 D HDL.out rfl rfl Z HZL.out HR2.out ?_; intro W9 hb9 hbut9)
    | fail)
  refine bodyPost_ret (results_cell_row rfl _ _ g0 _ _ _ _ rfl hb9 ukt rfl (by rw [i32]; simp [HDL.out])) rfl ⟨rfl, ?_⟩
  exact ((HG1.out.trans ((But.refl _ W1).alloc _)).then hbut2 (fun i hi e => by have := HG1.out.size; omega)).then hbut9 (fun i hi e => by have := HG0.out; omega)
set_option maxRecDepth 100000 in
set_option maxHeartbeats 8000000 in
theorem hash_any {w : World} {own : Owner} {gl : Nat} {P : List Pr} {S O : List Tup} {v : Value} {xss : List (List Nat)} (h : Lg w own gl P S O) (hv : Ps w v xss) (hk : Kw w) (hh : Hw w) (hlen : xss.flatten.length ≤ 1000000) (hx1 : 1 ≤ xss.length) (hxl : xss.length ≤ 100000) (hcap : ∀ ao n c, v = .slice ao n c → n ≤ c) (hn : P.length < 1000000) :
    Calls Tryd.prog 33 #[.pointer (some ⟨gl, 0, none⟩), v] w fun e w' => e = .returned (dkey (digest xss.flatten)) ∧ LgTo w own gl (P ++ [(xss.flatten, digest xss.flatten)]) S O w' := by
  obtain ⟨Z, hZ⟩ : ∃ Z, Z = u8s z32 := ⟨_, rfl⟩
  have hz := z32v
  rw [← hZ] at hz
  have HZL : Hid (Z.length = 32) := by show _ = _; rw [hZ]; rfl
  obtain ⟨g0, hg0⟩ : ∃ g, g = w.heap.size := ⟨_, rfl⟩
  obtain ⟨W0, hW0⟩ : ∃ W0, W0 = w.alloc (.cells Z.toArray 31) := ⟨_, rfl⟩
  have hT0 : Grow w W0 := by rw [hW0]; exact (But.refl _ w).alloc _
  have HR0 : Hid (Blk W0 g0 31 Z) := by show Blk _ _ _ _; rw [hW0]; exact Blk.new hg0.symm
  have HOF := Hid.mk' (of_any (hv.below hT0) (hk.but hT0 (fun h => h)) (hh.but hT0 (fun h => h)) (by omega) (by omega))
  have HJ := Hid.mk' (fun w' (hw : Grow w w') => join_any (hv.below hw) hx1 hxl hlen hcap)
  obtain ⟨D, hD⟩ : ∃ D, D = digest xss.flatten := ⟨_, rfl⟩
  have HDW : Hid (wf32 D) := by show wf32 _; rw [hD]; exact digest_wf _
  rw [← hD] at HOF ⊢
  obtain ⟨xs, hxs⟩ : ∃ xs, xs = xss.flatten := ⟨_, rfl⟩
  rw [← hxs] at HJ hlen ⊢
  have HT0 := Hid.mk' hT0
  have HG0 := Hid.mk' hg0
  have HW0 := Hid.mk' hW0
  have HH := Hid.mk' h
  have HN := Hid.mk' hn
  have HLE := Hid.mk' hlen
  have HDL : Hid (D.length = 32) := HDW.out.1
  obtain ⟨N, hN⟩ : ∃ N, N = (u8s D).toArray := ⟨_, rfl⟩
  have HNE := Hid.mk' hN
  have HTOP : Hid (Top w own) := by obtain ⟨_, _, _, _, _, _, h⟩ := h; exact h.top
  clear h hv hk hh hlen hx1 hxl hcap hZ hg0 hW0 hT0 hD hxs hN hn
  go_enter Tryd.func33, Tryd.ntmps33
  go_wp2_with fail
  rw [← HW0.out, ← HG0.out]
  refine Calls.mono HOF.out ?_
  rintro e W1 ⟨rfl, hg1⟩
  have HG1 := Hid.mk' (HT0.out.trans hg1)
  have HR1 := Hid.mk' (HR0.out.but hg1 (fun h => h))
  have HBZ : Hid (Blk (W1.alloc (.cells Z.toArray 31)) W1.heap.size 31 Z) := Blk.new rfl
  clear hg1
  go_upto_region 3 with (first
    | (refine wpList_store_u8s i32 rfl _ _ rfl W1.heap.size D HDL.out rfl rfl Z HZL.out HBZ.out ?_; intro W2 hb2 hbut2)
    | fail)
  obtain ⟨g2, hg2⟩ : ∃ g, g = W1.heap.size := ⟨_, rfl⟩
  rw [← hg2] at hb2 hbut2 ⊢
  have hG2 : Grow W1 W2 := ((But.refl _ W1).alloc _).then hbut2 (fun i hi e => by omega)
  have HB2 := Hid.mk' hb2
  have HR2 := Hid.mk' (HR1.out.but hG2 (fun h => h))
  have HGW := Hid.mk' (HG1.out.trans hG2)
  have HG2N : Hid (own g2 = .none) := HTOP.out g2 (by have := HG1.out.size; omega)
  have HG0N : Hid (own g0 = .none) := HTOP.out g0 (by have := HG0.out; omega)
  clear hb2 hbut2 hG2 hg2 HBZ HR1 HG1 HR0 HOF HW0
  rw [← HNE.out]
  refine region_chain [([0, 1, 3], 2), ([], 4)] [] (Grow W2) (Grow W2) (by kernel_rfl) (by kernel_rfl) (fun _ _ h k => h.trans k) (fun _ h => h) ((But.refl _ W2).drew) ?_
  intro ι hne X hX
  iterate 2 (refine still_step rfl (fun K hK => ?_); go_simp; refine hK _ ?_; clear hK K)
  refine still_val rfl (.agg N) rfl (fun x => by rw [HNE.out]; exact run_load_arr ukt i32 (HB2.out.but (hX x) (fun h => h)).cells0 HDL.out rfl rfl) ?_
  intro K hK; go_simp; refine hK _ ?_; clear hK K
  refine still_nil ?_
  clear hX hne
  refine turn_call rfl rfl (fun u w' => Grow W2 w' ∧ Bs w' u xs ∧ (0 < xs.length → ∀ k, u.ownBlock = some k → W2.heap.size ≤ k)) (fun _ => Grow W2) (fun u w1 w2 h k => ⟨h.1.trans k, h.2.1.but k (fun _ _ _ h => h), h.2.2⟩) (fun u w1 h => h.1) (.inr (fun _ _ h => h)) 52 #[v, .slice none 0 0] (fun _ => by kernel_rfl) ?_ ?_
  · intro w1 hw1
    refine Calls.mono (HJ.out w1 (HGW.out.trans hw1)) ?_
    rintro e w2 ⟨v', rfl, h1, h2, h3⟩
    exact ⟨v', rfl, hw1.trans h3, h1, fun h0 k hk => Nat.le_trans hw1.size (h2 h0 k hk)⟩
  · rintro u ⟨wq, -, hub, -⟩ Y hY
    clear hub wq
    go_simp
    refine hY _ ?_
    clear hY Y
    intro ι hne X hX
    refine still_nil ?_
    clear hX hne
    refine turn_call rfl rfl (fun _ w' => LgTo W2 own gl (P ++ [(xs, D)]) S O w') (fun _ _ => True) (fun _ w1 w2 h k => h.grow k) (fun _ _ _ => trivial) (.inl (by kernel_rfl)) 51 #[.pointer (some ⟨gl, 0, none⟩), u, .agg N] (fun _ => by kernel_rfl) ?_ ?_
    · rintro w1 ⟨h1, h2, h3⟩
      have hlg := HH.out.but (HGW.out.trans h1) (fun _ _ h => h)
      have hnt := note_any hlg (v := u) ⟨h2, fun h0 k hk => HTOP.out k (Nat.le_trans HGW.out.size (h3 h0 k hk))⟩ (by have := HLE.out; omega) HDW.out HN.out
      rw [show dkey D = .agg N by rw [HNE.out]; rfl] at hnt
      refine hnt.mono ?_
      rintro e w2 ⟨rfl, h4⟩
      exact ⟨_, rfl, h4.from h1 (fun _ _ h => h.elim)⟩
    · rintro q - Y hY
      go_simp
      refine hY _ ?_
      clear hY Y
      intro ι hne X hX
      refine still_nil ?_
      clear hX hne
      intro W6 hW6
      have HB6 := Hid.mk' (HB2.out.but hW6.but (fun e => e HG2N.out))
      have HR6 := Hid.mk' (HR2.out.but hW6.but (fun e => e HG0N.out))
      have HW6 := Hid.mk' hW6
      clear hW6
      go_wp2_with (first
        | (refine wpList_load_u8s ukt i32 rfl _ rfl g2 D HDL.out rfl HB6.out ?_)
        | (refine wpList_store_u8s i32 rfl _ _ rfl g0 D HDL.out rfl rfl Z HZL.out HR6.out ?_; intro W9 hb9 hbut9)
        | fail)
      refine bodyPost_ret (results_cell_row rfl _ _ g0 _ _ _ _ rfl hb9 ukt rfl (by rw [i32]; simp [HDL.out])) rfl ⟨rfl, ?_⟩
      have h6 := HW6.out
      obtain ⟨own', q1, q2, q3⟩ := h6.ex
      have hg0n' : own' g0 = .none := by
        by_cases hq : own' g0 = own g0
        · rw [hq]; exact HG0N.out
        · exact absurd (q2 g0 hq) (by have := HR2.out.lt; omega)
      refine ⟨But.then (But.then (HGW.out.mono (fun _ _ h => h.elim)) h6.but (fun _ _ h => h)) hbut9 (fun i hi e => by have := HG0.out; omega), own', q1, fun b hb => Nat.le_trans HGW.out.size (q2 b hb), q3.but hbut9 (fun b hb e => hb (by rw [e]; exact hg0n'))⟩
end Go.Proofs.YtmlladpmecclbaaDoor
/- The document's examples. -/
namespace Go.Proofs.YtmlladpmecclbaaDoor
open Go.RowKit

theorem Lg.top {w : World} {own : Owner} {gl : Nat} {P : List Pr} {S O : List Tup} (h : Lg w own gl P S O) : Top w own := by
  obtain ⟨_, _, _, _, _, _, h⟩ := h; exact h.top
/-- A log that is new since w0. -/
structure LgN (w0 w : World) (own : Owner) (gl : Nat) (P : List Pr) (S O : List Tup) : Prop where
  lg : Lg w own gl P S O
  grow : Grow w0 w
  new : ∀ b, own b ≠ .none → w0.heap.size ≤ b
theorem LgTo.keeps {w W : World} {own own' : Owner} {gl : Nat} {P : List Pr} {S O : List Tup} (k : LgTo w own gl P S O W) (hf : Fresh w own own') {v : Value} {xs : List Nat} (h : Bf w (Is own .none) v xs) : Bf W (Is own' .none) v xs := by
  have h1 := h.but k.but (fun j hj e => e hj)
  refine ⟨h1.1, fun h0 j hj => ?_⟩
  have h2 := h.2 h0 j hj
  by_cases hq : own' j = own j
  · show own' j = .none
    rw [hq]; exact h2
  · exact absurd hj (h.1.own h0 (hf j hq))
theorem LgN.to {w0 w W : World} {own : Owner} {gl : Nat} {P P' : List Pr} {S S' O O' : List Tup} (h : LgN w0 w own gl P S O) (k : LgTo w own gl P' S' O' W) : ∃ own', LgN w0 W own' gl P' S' O' ∧ ∀ v xs, Bf w (Is own .none) v xs → Bf W (Is own' .none) v xs := by
  obtain ⟨own', h1, h2, h3⟩ := k.ex
  refine ⟨own', ⟨h3, h.grow.then k.but (fun i hi e => by have := h.new i e; omega), fun b hb => ?_⟩, fun v xs hb => k.keeps h2 hb⟩
  by_cases hq : own' b = own b
  · exact h.new b (by rw [← hq]; exact hb)
  · exact Nat.le_trans h.grow.size (h2 b hq)
theorem LgN.then {w0 w W : World} {own : Owner} {gl : Nat} {P : List Pr} {S O : List Tup} (h : LgN w0 w own gl P S O) (k : Grow w W) : LgN w0 W own gl P S O := ⟨h.lg.but k (fun _ _ h => h), h.grow.trans k, h.new⟩
def D7 : List Nat := 7 :: List.replicate 31 0
def T3 : Tup := (3, List.replicate 12 0, [], [])
theorem D7_wf : wf32 D7 := ⟨rfl, by decide⟩
theorem D7_build (w : World) : (Instr.build 31 #[(0, .int .u8 7)]).run Tryd.prog w = .ok (dkey D7) w := run_build w _ _ _ (by kernel_rfl)
theorem T3_build (w : World) : (Instr.build 148 #[(0, .int .u32 3)]).run Tryd.prog w = .ok (.agg (tcells T3 (.slice none 0 0) (.slice none 0 0)).toArray) w := run_build w _ _ _ (by kernel_rfl)
theorem T3_tv (w : World) (F : Nat → Prop) : Tv w F T3 (.slice none 0 0) (.slice none 0 0) := ⟨by decide, rfl, by decide, ⟨Bs.nil w, fun h => absurd h (by decide)⟩, ⟨Bs.nil w, fun h => absurd h (by decide)⟩⟩
theorem lit1 {w : World} {own : Owner} (ht : Top w own) (x : Nat) (hx : x < 256) : Bf (w.alloc (.cells #[.int .u8 (x : Int)] 5)) (Is own .none) (.slice (some ⟨w.heap.size, 0, none⟩) 1 1) [x] := by
  refine ⟨⟨by simpa using hx, by simp, .inr ⟨by simp, w.heap.size, 0, 1, rfl, by simp, by simp, fun i hi => ?_⟩⟩, fun _ j hj => ?_⟩
  · obtain rfl : i = 0 := by simpa using hi
    have hb : Blk (w.alloc (.cells #[.int .u8 (x : Int)] 5)) w.heap.size 5 [.int .u8 (x : Int)] := Blk.new (L := [.int .u8 (x : Int)]) rfl
    rw [Nat.add_zero, hb.cell]; rfl
  · cases hj; exact ht _ (Nat.le_refl _)
theorem T3_sized : Sized ([] ++ [T3]) := fun t ht => by rw [show t = T3 by simpa using ht]; decide
theorem clash2 : Fst2 (ck [([1], D7), ([2], D7)]) 2 (some (0, 1)) := by
  refine ⟨by decide, by decide, by decide, fun k hk => absurd hk (by omega), fun l hl k hk => ?_⟩
  omega
end Go.Proofs.YtmlladpmecclbaaDoor
/- row: isSize. -/
namespace Go.Proofs.YtmlladpmecclbaaDoor
open Go.RowKit

theorem isSize_any (n : Int) (w : World) :
    Calls Tryd.prog 61 #[.int .i64 n] w fun e w' => e = .returned (.bool (decide (1 ≤ n ∧ n ≤ 8))) ∧ w' = w := by
  by_cases h1 : 1 ≤ n
  · by_cases h2 : n ≤ 8
    · rw [decide_eq_true ⟨h1, h2⟩]
      go_enter Tryd.func61, Tryd.ntmps61
      go_wp2
      go_ret
      exact ⟨rfl, rfl⟩
    · rw [decide_eq_false (fun h => h2 h.2)]
      go_enter Tryd.func61, Tryd.ntmps61
      go_wp2
      go_ret
      exact ⟨rfl, rfl⟩
  · rw [decide_eq_false (fun h => h1 h.1)]
    go_enter Tryd.func61, Tryd.ntmps61
    go_wp2
    go_ret
    exact ⟨rfl, rfl⟩
end Go.Proofs.YtmlladpmecclbaaDoor
