/- Own rows of bytes, tuples and pairs; whose block is whose; the program's log in memory. -/
import Derived.Test.YthpgjbblbhjndaaDoorGhostMem
import Derived.Test.YthpgjbblbhjndaaDoorMapMem
import Derived.Test.YthpgjbblbhjndaaDoorBytesLeaf
import Derived.Test.YthpgjbblbhjndaaDoorChain
import Derived.Maps.AppendAt
namespace Go.Proofs.YthpgjbblbhjndaaDoor
open Go.RowKit

theorem ownsRow_but {R : Nat → Prop} {w w' : World} {base e s n : Nat} {v : Value} {xs : List Value} (h : w.ownsRow base e s v n xs) (k : But R w w') (hr : ∀ j, v.ownBlock = some j → ¬ R j) : w'.ownsRow base e s v n xs := by
  obtain ⟨h1, h2 | ⟨g, cap, cur, rfl, hg, hh, r⟩⟩ := h
  · exact ⟨h1, .inl h2⟩
  · exact ⟨h1, .inr ⟨g, cap, cur, rfl, hg, (k.block g (lt_of_block hh) (hr g rfl)).trans hh, r⟩⟩
/-- An own row whose block lies in Fr. -/
structure RowOf (w : World) (Fr : Nat → Prop) (e s : Nat) (v : Value) (n : Nat) (xs : List Value) : Prop where
  own : w.ownsRow 0 e s v n xs
  inF : ∀ k, v.ownBlock = some k → Fr k
theorem RowOf.but {R Fr Fr' : Nat → Prop} {w w' : World} {e s n : Nat} {v : Value} {xs : List Value} (h : RowOf w Fr e s v n xs) (k : But R w w') (hr : ∀ j, Fr j → ¬ R j) (hf : ∀ j, Fr j → Fr' j) : RowOf w' Fr' e s v n xs :=
  ⟨ownsRow_but h.own k (fun j hj => hr j (h.inF j hj)), fun j hj => hf j (h.inF j hj)⟩
theorem RowOf.nil (w : World) (Fr : Nat → Prop) (e s : Nat) : RowOf w Fr e s (.slice none 0 0) 0 [] := ⟨World.ownsRow_nil _ _ _ _, fun k hk => by cases hk⟩
theorem RowOf.shape {w : World} {Fr : Nat → Prop} {e s n : Nat} {v : Value} {xs : List Value} (h : RowOf w Fr e s v n xs) : ∃ ao cap, v = .slice ao n cap ∧ (0 < n → ∃ g, ao = some ⟨g, 0, none⟩ ∧ Fr g ∧ g < w.heap.size ∧ ∀ j u, xs[j]? = some u → w.cell? ⟨g, j, none⟩ = some u) := by
  have hc := h.own
  obtain ⟨⟨h1, ⟨rfl, rfl⟩ | ⟨g, cap, cur, rfl, hg, hh, r⟩⟩, hF⟩ := h
  · exact ⟨none, 0, rfl, fun h => absurd h (by omega)⟩
  · refine ⟨_, cap, rfl, fun _ => ⟨g, rfl, hF g rfl, lt_of_block hh, fun j u hj => ?_⟩⟩
    have := hc.cells (g := g) rfl j u hj
    have e : (⟨g, 0, none⟩ : Addr).add j = ⟨g, j, none⟩ := by simp [Addr.add]; exact fun h => h.symm
    rwa [e] at this

abbrev TE := Tup × Value × Value
def tc (e : TE) : List Value := tcells e.1 e.2.1 e.2.2
structure TRow (w : World) (Fr G : Nat → Prop) (v : Value) (L : List TE) : Prop where
  row : RowOf w Fr 46 15 v L.length (L.flatMap tc)
  el : ∀ e ∈ L, Tv w G e.1 e.2.1 e.2.2
theorem TRow.but {R Fr G Fr' G' : Nat → Prop} {w w' : World} {v : Value} {L : List TE} (h : TRow w Fr G v L) (k : But R w w') (hr : ∀ j, Fr j → ¬ R j) (hg : ∀ j, G j → ¬ R j) (h1 : ∀ j, Fr j → Fr' j) (h2 : ∀ j, G j → G' j) : TRow w' Fr' G' v L :=
  ⟨h.row.but k hr h1, fun e he => ((h.el e he).but k hg).mono h2⟩
theorem TRow.nil (w : World) (Fr G : Nat → Prop) : TRow w Fr G (.slice none 0 0) [] := ⟨RowOf.nil _ _ _ _, fun _ he => absurd he List.not_mem_nil⟩
abbrev BE := Value × List Nat
structure BRow (w : World) (Fr G : Nat → Prop) (v : Value) (L : List BE) : Prop where
  row : RowOf w Fr 31 1 v L.length (L.map (·.1))
  el : ∀ e ∈ L, Bf w G e.1 e.2
theorem BRow.but {R Fr G Fr' G' : Nat → Prop} {w w' : World} {v : Value} {L : List BE} (h : BRow w Fr G v L) (k : But R w w') (hr : ∀ j, Fr j → ¬ R j) (hg : ∀ j, G j → ¬ R j) (h1 : ∀ j, Fr j → Fr' j) (h2 : ∀ j, G j → G' j) : BRow w' Fr' G' v L :=
  ⟨h.row.but k hr h1, fun e he => ((h.el e he).but k hg).mono h2⟩
theorem BRow.nil (w : World) (Fr G : Nat → Prop) : BRow w Fr G (.slice none 0 0) [] := ⟨RowOf.nil _ _ _ _, fun _ he => absurd he List.not_mem_nil⟩
abbrev Pr := List Nat × List Nat
def p0 : Pr := ([], [])
def t0 : Tup := (0, [], [], [])
def wf32 (D : List Nat) : Prop := D.length = 32 ∧ ∀ z ∈ D, z < 256
abbrev PE := Pr × Value
def pc (e : PE) : List Value := e.2 :: u8s e.1.2
structure PRow (w : World) (Fr G : Nat → Prop) (v : Value) (L : List PE) : Prop where
  row : RowOf w Fr 37 33 v L.length (L.flatMap pc)
  el : ∀ e ∈ L, Bf w G e.2 e.1.1 ∧ wf32 e.1.2
theorem PRow.but {R Fr G Fr' G' : Nat → Prop} {w w' : World} {v : Value} {L : List PE} (h : PRow w Fr G v L) (k : But R w w') (hr : ∀ j, Fr j → ¬ R j) (hg : ∀ j, G j → ¬ R j) (h1 : ∀ j, Fr j → Fr' j) (h2 : ∀ j, G j → G' j) : PRow w' Fr' G' v L :=
  ⟨h.row.but k hr h1, fun e he => ⟨((h.el e he).1.but k hg).mono h2, (h.el e he).2⟩⟩
theorem PRow.nil (w : World) (Fr G : Nat → Prop) : PRow w Fr G (.slice none 0 0) [] := ⟨RowOf.nil _ _ _ _, fun _ he => absurd he List.not_mem_nil⟩
theorem flat_at {α : Type} {f : α → List Value} {s : Nat} : ∀ (L : List α), (∀ e ∈ L, (f e).length = s) → ∀ i e c u, L[i]? = some e → (f e)[c]? = some u → (L.flatMap f)[i * s + c]? = some u
  | [], _, i, e, c, u, h, _ => by simp at h
  | x :: L, hl, i, e, c, u, h, hu => by
    rw [List.flatMap_cons]
    cases i with
    | zero =>
      obtain rfl : x = e := by simpa using h
      rw [Nat.zero_mul, Nat.zero_add, List.getElem?_append_left (List.getElem?_eq_some_iff.1 hu).1]
      exact hu
    | succ i =>
      have hx := hl x List.mem_cons_self
      rw [List.getElem?_append_right (by rw [hx, Nat.succ_mul]; omega), hx]
      have e2 : (i + 1) * s + c - s = i * s + c := by rw [Nat.succ_mul]; omega
      rw [e2]
      exact flat_at L (fun e he => hl e (List.mem_cons_of_mem _ he)) i e c u (by simpa using h) hu
theorem flat_len {α : Type} {f : α → List Value} {s : Nat} : ∀ (L : List α), (∀ e ∈ L, (f e).length = s) → (L.flatMap f).length = L.length * s
  | [], _ => by simp
  | x :: L, hl => by
    rw [List.flatMap_cons, List.length_append, hl x List.mem_cons_self, flat_len L (fun e he => hl e (List.mem_cons_of_mem _ he)), List.length_cons, Nat.succ_mul]; omega

/-- Whose a block is. -/
inductive Tag where
  | none | log | inm | byt | cla | sem | twi | blo | str
  | row (e : Nat) (n : List Nat)
  deriving DecidableEq
abbrev Owner := Nat → Tag
def Is (own : Owner) (t : Tag) : Nat → Prop := fun b => own b = t
def tagAt (own : Owner) (g : Nat) (t : Tag) : Owner := fun b => if b = g then t else own b
def Ext (own own' : Owner) : Prop := ∀ b, own b ≠ .none → own' b = own b
theorem Ext.refl (own : Owner) : Ext own own := fun _ _ => rfl
theorem Ext.trans {a b c : Owner} (h : Ext a b) (k : Ext b c) : Ext a c := fun i hi => (k i (by rw [h i hi]; exact hi)).trans (h i hi)
theorem Ext.is {own own' : Owner} (h : Ext own own') {t : Tag} (ht : t ≠ .none) : ∀ b, Is own t b → Is own' t b := fun b hb => (h b (by rw [hb]; exact ht)).trans hb
theorem Ext.tagAt {own : Owner} {g : Nat} {t : Tag} (h : own g = .none ∨ own g = t) : Ext own (tagAt own g t) := fun b hb => by
  unfold Go.Proofs.YthpgjbblbhjndaaDoor.tagAt
  split
  · rename_i e
    subst e
    rcases h with h | h
    · exact absurd h hb
    · exact h.symm
  · rfl
def tagV (own : Owner) (v : Value) (t : Tag) : Owner := match v.ownBlock with | some k => tagAt own k t | none => own
theorem Ext.tagV {own : Owner} {v : Value} {t : Tag} (h : ∀ k, v.ownBlock = some k → own k = .none ∨ own k = t) : Ext own (tagV own v t) := by
  unfold Go.Proofs.YthpgjbblbhjndaaDoor.tagV
  cases hv : v.ownBlock with
  | none => exact Ext.refl _
  | some k => exact Ext.tagAt (h k hv)
theorem tagV_own {own : Owner} {v : Value} {t : Tag} {k : Nat} (h : v.ownBlock = some k) : tagV own v t k = t := by
  unfold tagV; rw [h]; simp [tagAt]
theorem tagAt_own {own : Owner} {g : Nat} {t : Tag} : tagAt own g t g = t := by simp [tagAt]
/-- Only what is new has a new tag. -/
def Fresh (w : World) (own own' : Owner) : Prop := ∀ b, own' b ≠ own b → w.heap.size ≤ b
theorem Fresh.refl (w : World) (own : Owner) : Fresh w own own := fun _ h => absurd rfl h
theorem Fresh.tagAt {w : World} {own own' : Owner} {g : Nat} {t : Tag} (h : Fresh w own own') (hg : w.heap.size ≤ g ∨ own g = t) : Fresh w own (tagAt own' g t) := fun b hb => by
  unfold Go.Proofs.YthpgjbblbhjndaaDoor.tagAt at hb
  split at hb
  · rename_i e
    subst e
    rcases hg with hg | hg
    · exact hg
    · exact absurd hg.symm hb
  · exact h b hb
theorem Fresh.tagV {w : World} {own own' : Owner} {v : Value} {t : Tag} (h : Fresh w own own') (hg : ∀ k, v.ownBlock = some k → w.heap.size ≤ k ∨ own k = t) : Fresh w own (tagV own' v t) := by
  unfold Go.Proofs.YthpgjbblbhjndaaDoor.tagV
  cases hv : v.ownBlock with
  | none => exact h
  | some k => exact h.tagAt (hg k hv)
def Top (w : World) (own : Owner) : Prop := ∀ b, w.heap.size ≤ b → own b = .none
theorem Top.grow {w w' : World} {own : Owner} (h : Top w own) (hs : w.heap.size ≤ w'.heap.size) : Top w' own := fun b hb => h b (Nat.le_trans hs hb)
theorem Top.lt {w : World} {own : Owner} (h : Top w own) {b : Nat} (hb : own b ≠ .none) : b < w.heap.size := by
  by_cases hl : b < w.heap.size
  · exact hl
  · exact absurd (h b (by omega)) hb
theorem Top.tagAt {w : World} {own : Owner} {g : Nat} {t : Tag} (h : Top w own) (hg : g < w.heap.size) : Top w (tagAt own g t) := fun b hb => by
  unfold Go.Proofs.YthpgjbblbhjndaaDoor.tagAt
  rw [if_neg (by omega)]
  exact h b hb
theorem Top.tagV {w : World} {own : Owner} {v : Value} {t : Tag} (h : Top w own) (hg : ∀ k, v.ownBlock = some k → k < w.heap.size) : Top w (tagV own v t) := by
  unfold Go.Proofs.YthpgjbblbhjndaaDoor.tagV
  cases hv : v.ownBlock with
  | none => exact h
  | some k => exact h.tagAt (hg k hv)

def dkey (D : List Nat) : Value := .agg (u8s D).toArray
theorem u8s_inj {a b : List Nat} (h : u8s a = u8s b) : a = b := by
  have : ∀ {a b : List Nat}, u8s a = u8s b → a = b := by
    intro a
    induction a with
    | nil => intro b h; cases b with
      | nil => rfl
      | cons y b => simp [u8s] at h
    | cons x a ih => intro b h; cases b with
      | nil => simp [u8s] at h
      | cons y b =>
        simp only [u8s, List.map_cons, List.cons.injEq, Value.int.injEq, true_and] at h
        rw [show x = y by omega, ih h.2]
  exact this h
theorem dkey_inj {a b : List Nat} (h : dkey a = dkey b) : a = b := u8s_inj (by simpa [dkey] using h)
def ucells (e : Nat) (n : List Nat) : List Value := .int .u32 (e : Int) :: u8s n
def ukey (e : Nat) (n : List Nat) : Value := .agg (ucells e n).toArray
theorem ukey_inj {e e' : Nat} {n n' : List Nat} (h : ukey e n = ukey e' n') : e = e' ∧ n = n' := by
  simp only [ukey, ucells, Value.agg.injEq, Array.mk.injEq, List.cons.injEq, Value.int.injEq, true_and] at h
  exact ⟨by omega, u8s_inj h.2⟩
def wfU (e : Nat) (n : List Nat) : Prop := e < 4294967296 ∧ n.length = 12 ∧ ∀ z ∈ n, z < 256

/-- The first pair that p joins: the first place j that has one ahead of it, and the first such one. -/
def Fst2 (p : Nat → Nat → Bool) (n : Nat) : Option (Nat × Nat) → Prop
  | none => ∀ j, j < n → ∀ i, i < j → p i j = false
  | some (i, j) => i < j ∧ j < n ∧ p i j = true ∧ (∀ k, k < i → p k j = false) ∧ ∀ l, l < j → ∀ k, k < l → p k l = false
theorem Fst2.uniq {p : Nat → Nat → Bool} {n : Nat} {r s : Option (Nat × Nat)} (h : Fst2 p n r) (k : Fst2 p n s) : r = s := by
  have key : ∀ {i j i' j' : Nat}, Fst2 p n (some (i, j)) → Fst2 p n (some (i', j')) → ¬ j < j' := by
    intro i j i' j' h k hlt
    have := k.2.2.2.2 j hlt i h.1
    rw [h.2.2.1] at this; cases this
  match r, s with
  | none, none => rfl
  | none, some (i, j) =>
    have := h j k.2.1 i k.1
    rw [k.2.2.1] at this; cases this
  | some (i, j), none =>
    have := k j h.2.1 i h.1
    rw [h.2.2.1] at this; cases this
  | some (i, j), some (i', j') =>
    have e1 : j = j' := by
      have h1 := key h k
      have h2 := key k h
      omega
    subst e1
    have e2 : i = i' := by
      have h1 : ¬ i < i' := fun hl => by have := k.2.2.2.1 i hl; rw [h.2.2.1] at this; cases this
      have h2 : ¬ i' < i := fun hl => by have := h.2.2.2.1 i' hl; rw [k.2.2.1] at this; cases this
      omega
    rw [e2]
/-- Two under one nonce. -/
def tk (S : List Tup) (i j : Nat) : Bool := decide ((S.getD i t0).1 = (S.getD j t0).1 ∧ (S.getD i t0).2.1 = (S.getD j t0).2.1)
/-- Two of one digest and different inputs. -/
def ck (P : List Pr) (i j : Nat) : Bool := decide ((P.getD i p0).2 = (P.getD j p0).2 ∧ (P.getD i p0).1 ≠ (P.getD j p0).1)
def firstIn (P : List Pr) (D : List Nat) : Option (List Nat) := (P.find? fun p => decide (p.2 = D)).map (·.1)
def byUse (S : List Tup) (e : Nat) (n : List Nat) : List Tup := S.filter fun t => decide (t.1 = e ∧ t.2.1 = n)
def outOf (S O : List Tup) : List Tup := O.filter fun o => decide (o ∉ S)

structure InM (w : World) (own : Owner) (v : Value) (P : List Pr) : Prop where
  ex : ∃ M, ((v = .map none ∧ M = []) ∨ ∃ b, v = .map (some b) ∧ own b = .inm ∧ Mp Tryd.prog 35 w b M) ∧
    ∀ D, wf32 D → match firstIn P D with | some x => ∃ u, (dkey D, u) ∈ M ∧ Bf w (Is own .byt) u x | none => ∀ p ∈ M, p.1 ≠ dkey D
structure Cla (w : World) (own : Owner) (v : Value) (P : List Pr) : Prop where
  ex : ∃ L, BRow w (Is own .cla) (Is own .byt) v L ∧ ((L = [] ∧ Fst2 (ck P) P.length none) ∨ ∃ i j, Fst2 (ck P) P.length (some (i, j)) ∧ L.map (·.2) = [(P.getD i p0).1, (P.getD j p0).1])
structure SeM (w : World) (own : Owner) (v : Value) (S : List Tup) : Prop where
  ex : ∃ M, ((v = .map none ∧ M = []) ∨ ∃ b, v = .map (some b) ∧ own b = .sem ∧ Mp Tryd.prog 80 w b M) ∧
    ∀ e n, wfU e n → ∃ u L, TRow w (Is own (.row e n)) (Is own .byt) u L ∧ L.map (·.1) = byUse S e n ∧ ((ukey e n, u) ∈ M ∨ ((∀ p ∈ M, p.1 ≠ ukey e n) ∧ u = .slice none 0 0 ∧ L = []))
structure Twi (w : World) (own : Owner) (v : Value) (S : List Tup) : Prop where
  ex : ∃ L, TRow w (Is own .twi) (Is own .byt) v L ∧ ((L = [] ∧ Fst2 (tk S) S.length none) ∨ ∃ i j, Fst2 (tk S) S.length (some (i, j)) ∧ L.map (·.1) = [S.getD i t0, S.getD j t0])
structure Blo (w : World) (own : Owner) (v : Value) (S : List Tup) : Prop where
  ex : ∃ L, BRow w (Is own .blo) (Is own .byt) v L ∧ L.map (·.2) = S.map (·.2.2.2)
structure Str (w : World) (own : Owner) (v : Value) (S O : List Tup) : Prop where
  ex : ∃ L, TRow w (Is own .str) (Is own .byt) v L ∧ outOf S (L.map (·.1)) = outOf S O ∧ L.length ≤ O.length
section
variable {R : Nat → Prop} {w w' : World} {own own' : Owner} {v : Value} {P : List Pr} {S O : List Tup}
theorem InM.but (h : InM w own v P) (k : But R w w') (hr : ∀ b, own b = .inm ∨ own b = .byt → ¬ R b) (he : Ext own own') : InM w' own' v P := by
  obtain ⟨M, h1, h2⟩ := h
  refine ⟨M, ?_, fun D hD => ?_⟩
  · rcases h1 with h1 | ⟨b, rfl, hb, hm⟩
    · exact .inl h1
    · exact .inr ⟨b, rfl, he.is (by decide) b hb, hm.but k (hr b (.inl hb))⟩
  · have := h2 D hD
    split at this
    · obtain ⟨u, h3, h4⟩ := this
      exact ⟨u, h3, (h4.but k (fun j hj => hr j (.inr hj))).mono (he.is (by decide))⟩
    · exact this
theorem Cla.but (h : Cla w own v P) (k : But R w w') (hr : ∀ b, own b = .cla ∨ own b = .byt → ¬ R b) (he : Ext own own') : Cla w' own' v P := by
  obtain ⟨L, h1, h2⟩ := h
  exact ⟨L, h1.but k (fun j hj => hr j (.inl hj)) (fun j hj => hr j (.inr hj)) (he.is (by decide)) (he.is (by decide)), h2⟩
theorem SeM.but (h : SeM w own v S) (k : But R w w') (hr : ∀ b, own b = .sem ∨ own b = .byt ∨ (∃ e n, own b = .row e n) → ¬ R b) (he : Ext own own') : SeM w' own' v S := by
  obtain ⟨M, h1, h2⟩ := h
  refine ⟨M, ?_, fun e n hU => ?_⟩
  · rcases h1 with h1 | ⟨b, rfl, hb, hm⟩
    · exact .inl h1
    · exact .inr ⟨b, rfl, he.is (by decide) b hb, hm.but k (hr b (.inl hb))⟩
  · obtain ⟨u, L, h3, h4⟩ := h2 e n hU
    exact ⟨u, L, h3.but k (fun j hj => hr j (.inr (.inr ⟨e, n, hj⟩))) (fun j hj => hr j (.inr (.inl hj))) (he.is (by simp)) (he.is (by decide)), h4⟩
theorem Twi.but (h : Twi w own v S) (k : But R w w') (hr : ∀ b, own b = .twi ∨ own b = .byt → ¬ R b) (he : Ext own own') : Twi w' own' v S := by
  obtain ⟨L, h1, h2⟩ := h
  exact ⟨L, h1.but k (fun j hj => hr j (.inl hj)) (fun j hj => hr j (.inr hj)) (he.is (by decide)) (he.is (by decide)), h2⟩
theorem Blo.but (h : Blo w own v S) (k : But R w w') (hr : ∀ b, own b = .blo ∨ own b = .byt → ¬ R b) (he : Ext own own') : Blo w' own' v S := by
  obtain ⟨L, h1, h2⟩ := h
  exact ⟨L, h1.but k (fun j hj => hr j (.inl hj)) (fun j hj => hr j (.inr hj)) (he.is (by decide)) (he.is (by decide)), h2⟩
theorem Str.but (h : Str w own v S O) (k : But R w w') (hr : ∀ b, own b = .str ∨ own b = .byt → ¬ R b) (he : Ext own own') : Str w' own' v S O := by
  obtain ⟨L, h1, h2⟩ := h
  exact ⟨L, h1.but k (fun j hj => hr j (.inl hj)) (fun j hj => hr j (.inr hj)) (he.is (by decide)) (he.is (by decide)), h2⟩
end
/-- The parts of a log. -/
structure LgV (w : World) (own : Owner) (gl : Nat) (P : List Pr) (S O : List Tup) (nh no : Nat) (vi vc vm vt vb vs : Value) : Prop where
  top : Top w own
  tag : own gl = .log
  blk : Blk w gl 70 [.int .i64 (nh : Int), vi, vc, vm, vt, vb, .int .i64 (no : Int), vs]
  inm : InM w own vi P
  cla : Cla w own vc P
  sem : SeM w own vm S
  twi : Twi w own vt S
  blo : Blo w own vb S
  str : Str w own vs S O
def Lg (w : World) (own : Owner) (gl : Nat) (P : List Pr) (S O : List Tup) : Prop := ∃ vi vc vm vt vb vs, LgV w own gl P S O P.length O.length vi vc vm vt vb vs
theorem LgV.but {R : Nat → Prop} {w w' : World} {own own' : Owner} {gl : Nat} {P : List Pr} {S O : List Tup} {nh no : Nat} {vi vc vm vt vb vs : Value} (h : LgV w own gl P S O nh no vi vc vm vt vb vs) (k : But R w w') (hr : ∀ b, own b ≠ .none → ¬ R b) (he : Ext own own') (ht : Top w' own') : LgV w' own' gl P S O nh no vi vc vm vt vb vs := by
  have hx : ∀ {b t}, own b = t → t ≠ .none → ¬ R b := fun h1 h2 => hr _ (by rw [h1]; exact h2)
  refine ⟨ht, he.is (by decide) gl h.tag, h.blk.but k (hx h.tag (by decide)), h.inm.but k ?_ he, h.cla.but k ?_ he, h.sem.but k ?_ he, h.twi.but k ?_ he, h.blo.but k ?_ he, h.str.but k ?_ he⟩
  all_goals intro b hb
  · rcases hb with hb | hb <;> exact hx hb (by decide)
  · rcases hb with hb | hb <;> exact hx hb (by decide)
  · rcases hb with hb | hb | ⟨e, n, hb⟩
    · exact hx hb (by decide)
    · exact hx hb (by decide)
    · exact hx hb (by simp)
  · rcases hb with hb | hb <;> exact hx hb (by decide)
  · rcases hb with hb | hb <;> exact hx hb (by decide)
  · rcases hb with hb | hb <;> exact hx hb (by decide)
theorem Lg.but {R : Nat → Prop} {w w' : World} {own : Owner} {gl : Nat} {P : List Pr} {S O : List Tup} (h : Lg w own gl P S O) (k : But R w w') (hr : ∀ b, own b ≠ .none → ¬ R b) : Lg w' own gl P S O := by
  obtain ⟨vi, vc, vm, vt, vb, vs, h⟩ := h
  exact ⟨vi, vc, vm, vt, vb, vs, h.but k hr (Ext.refl _) (h.top.grow k.size)⟩
/-- What an operation on the log leaves. -/
structure LgTo (w : World) (own : Owner) (gl : Nat) (P : List Pr) (S O : List Tup) (w' : World) : Prop where
  but : But (fun b => own b ≠ .none) w w'
  ex : ∃ own', Ext own own' ∧ Fresh w own own' ∧ Lg w' own' gl P S O
end Go.Proofs.YthpgjbblbhjndaaDoor
