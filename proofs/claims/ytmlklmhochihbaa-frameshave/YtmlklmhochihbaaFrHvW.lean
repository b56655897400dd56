/- FramesHave: what was put, beside the table. -/
import Derived.Test.YtmlklmhochihbaaFrView
import Derived.Test.YtmlklmhochihbaaOwnRow
import Derived.Test.YtmlklmhochihbaaPickAny
import Derived.ProofKit
import Derived.OpenShut
import Derived.ChangeOld
import Derived.Below
namespace Go.Proofs.Ytmlklmhochihbaa
open Go.ChangeShapes Go.WideShapes Go.ChangeAt Go.RowKit

/-- A key, the slice that was put, its bytes. -/
abbrev Zt := Int × Value × List Nat
structure HvI (n : Nat) (s : St) (Z : List Zt) : Prop where
  most : s.most = n
  pins : s.pins = []
  mem : (Z.map (fun z => (z.1, z.2.2))).Perm (s.fr.map (fun e => (e.1, e.2.1)))
section
variable {n a : Nat} {s : St} {Z : List Zt} {K : Int} {v : Value} {b : List Nat} {q : Bool}
theorem HvI.keys (h : HvI n s Z) : (Z.map (·.1)).Perm s.keys := by
  have := h.mem.map (fun p : Int × List Nat => p.1)
  rw [List.map_map, List.map_map] at this
  exact this
theorem HvI.len (h : HvI n s Z) : Z.length = s.fr.length := by
  have := h.mem.length_eq
  rwa [List.length_map, List.length_map] at this
theorem HvI.nd (h : HvI n s Z) (hok : Sok s) : (Z.map (·.1)).Nodup := h.keys.nodup_iff.2 hok.nd
theorem HvI.has (h : HvI n s Z) : s.has K = true ↔ ∃ z ∈ Z, z.1 = K := by
  rw [show s.has K = hasK s.fr K from rfl, hasK_keys]
  rw [show s.fr.map (·.1) = s.keys from rfl, ← h.keys.mem_iff, List.mem_map]
theorem HvI.at (h : HvI n s Z) (hok : Sok s) {z : Zt} (hz : z ∈ Z) : s.has z.1 = true ∧ s.bytes z.1 = z.2.2 := by
  refine ⟨h.has.2 ⟨z, hz, rfl⟩, ?_⟩
  have h1 : (z.1, z.2.2) ∈ s.fr.map (fun e => (e.1, e.2.1)) := h.mem.mem_iff.1 (List.mem_map.2 ⟨z, hz, rfl⟩)
  obtain ⟨e, he, h2⟩ := List.mem_map.1 h1
  have h3 := (St.at_mark hok he).2
  simp only [Prod.mk.injEq] at h2
  rw [← h2.1, h3, h2.2]
theorem HvI.dropNot (h : HvI n s Z) (hn : ∀ z ∈ Z, z.1 ≠ K) : s.dropc K = 5 ∧ s.drop K = s := by
  have hh : s.has K = false := by
    cases hh : s.has K with
    | false => rfl
    | true => obtain ⟨z, hz, e⟩ := h.has.1 hh; exact absurd e (hn z hz)
  have : s.dropc K = 5 := by unfold St.dropc; rw [hh]; rfl
  exact ⟨this, by unfold St.drop; rw [this]; rfl⟩
theorem HvI.drop (h : HvI n s Z) (hok : Sok s) {z x : Zt} (ha : Z[a]? = some z) (hz : z.1 = K) (hx : Z[Z.length - 1]? = some x) : s.dropc K = 0 ∧ HvI n (s.drop K) (rem Z a x) := by
  have hh : s.has K = true := h.has.2 ⟨z, List.mem_of_getElem? ha, hz⟩
  have hp : s.pinned K = false := by unfold St.pinned; rw [h.pins]; rfl
  have hc : s.dropc K = 0 := by unfold St.dropc; rw [hh, hp]; rfl
  have e1 : s.drop K = { s with fr := s.fr.filter (fun e => !(e.1 == K)), hl := s.hl.filter (fun e => !(e.1 == K)) } := by unfold St.drop; rw [if_pos hc]
  refine ⟨hc, ?_⟩
  rw [e1]
  refine ⟨h.most, h.pins, ?_⟩
  have hpm := rem_perm ha hx
  have hnd : ((z :: rem Z a x).map (·.1)).Nodup := (hpm.map _).nodup_iff.1 (h.nd hok)
  rw [List.map_cons, List.nodup_cons] at hnd
  have h2 := (((hpm.map (fun z : Zt => (z.1, z.2.2))).symm.trans h.mem).filter (fun p => !(p.1 == K)))
  rw [List.map_cons, List.filter_cons, if_neg (by simp [hz])] at h2
  have e2 : ((rem Z a x).map (fun z : Zt => (z.1, z.2.2))).filter (fun p => !(p.1 == K)) = (rem Z a x).map (fun z : Zt => (z.1, z.2.2)) := by
    rw [List.filter_eq_self]
    intro p hp
    obtain ⟨y, hy, rfl⟩ := List.mem_map.1 hp
    have : y.1 ≠ K := fun e => hnd.1 (List.mem_map.2 ⟨y, hy, by rw [e, hz]⟩)
    simpa using this
  rw [e2, List.filter_map] at h2
  exact h2
theorem HvI.put1 (h : HvI n s Z) (hn : ∀ z ∈ Z, z.1 ≠ K) (hl : Z.length < n) : s.putc K = 0 ∧ HvI n (s.put K b q) (Z ++ [(K, v, b)]) := by
  have hh : s.has K = false := by
    cases hh : s.has K with
    | false => rfl
    | true => obtain ⟨z, hz, e⟩ := h.has.1 hh; exact absurd e (hn z hz)
  have hf : ¬ (s.most ≤ s.fr.length) := by rw [h.most, ← h.len]; omega
  refine ⟨by unfold St.putc; rw [hh, if_neg (by decide), if_neg hf], ?_⟩
  unfold St.put
  rw [if_neg (by rw [hh]; decide), if_neg hf]
  refine ⟨h.most, h.pins, ?_⟩
  rw [List.map_append, List.map_append]
  exact h.mem.append (List.Perm.refl _)
theorem HvI.putFull (h : HvI n s Z) (hn : ∀ z ∈ Z, z.1 ≠ K) (hl : ¬ Z.length < n) : s.putc K = 11 ∧ s.put K b q = s := by
  have hh : s.has K = false := by
    cases hh : s.has K with
    | false => rfl
    | true => obtain ⟨z, hz, e⟩ := h.has.1 hh; exact absurd e (hn z hz)
  have hf : s.most ≤ s.fr.length := by rw [h.most, ← h.len]; omega
  exact ⟨by unfold St.putc; rw [hh, if_neg (by decide), if_pos hf], by unfold St.put; rw [if_neg (by rw [hh]; decide), if_pos hf]⟩
theorem HvI.put2 (h : HvI n s Z) (hok : Sok s) {z : Zt} (ha : Z[a]? = some z) (hz : z.1 = K) : s.putc K = 0 ∧ HvI n (s.put K b q) (Z.set a (K, v, b)) := by
  have hh : s.has K = true := h.has.2 ⟨z, List.mem_of_getElem? ha, hz⟩
  refine ⟨by unfold St.putc; rw [hh, if_pos rfl], ?_⟩
  unfold St.put
  rw [if_pos hh]
  refine ⟨h.most, h.pins, ?_⟩
  have h2 := h.mem.map (fun p : Int × List Nat => if p.1 == K then (p.1, b) else p)
  have e1 : (s.fr.map (fun e : FrE => (e.1, e.2.1))).map (fun p : Int × List Nat => if p.1 == K then (p.1, b) else p) = (St.laid s.fr K b q).map (fun e : FrE => (e.1, e.2.1)) := by
    unfold St.laid
    rw [List.map_map, List.map_map]
    apply List.map_congr_left
    intro e _
    simp only [Function.comp]
    split <;> rfl
  have e2 : (Z.map (fun z : Zt => (z.1, z.2.2))).map (fun p : Int × List Nat => if p.1 == K then (p.1, b) else p) = (Z.set a (K, v, b)).map (fun z : Zt => (z.1, z.2.2)) := by
    have hl : a < Z.length := (List.getElem?_eq_some_iff.1 ha).1
    rw [List.map_map]
    apply List.ext_getElem?
    intro j
    rw [List.getElem?_map, List.getElem?_map, List.getElem?_set]
    by_cases hj : a = j
    · subst hj
      rw [if_pos rfl, if_pos hl, ha]
      simp [hz]
    · rw [if_neg hj]
      cases hzj : Z[j]? with
      | none => rfl
      | some y =>
        have hne : y.1 ≠ K := fun e => hj (by
          have hj2 : j < Z.length := (List.getElem?_eq_some_iff.1 hzj).1
          refine (List.getElem?_inj (l := Z.map (·.1)) (by rw [List.length_map]; exact hl) (h.nd hok)).1 ?_
          rw [List.getElem?_map, List.getElem?_map, ha, hzj]
          simp [hz, e])
        simp [hne]
  rw [e1, e2] at h2
  exact h2
end
/-- The law's rows. -/
structure HvR (F : Nat → Prop) (w wr : World) (Z : List Zt) (kv hv : Value) : Prop where
  rk : RowOf wr F 3 1 kv Z.length (Z.map fun z => iv z.1)
  rh : RowOf wr F 31 1 hv Z.length (Z.map fun z => z.2.1)
  va : ∀ z ∈ Z, Bf w (· < w.heap.size) z.2.1 z.2.2 ∧ i64 z.1
  ne : ∀ j, kv.ownBlock = some j → hv.ownBlock ≠ some j
structure HvW (F : Nat → Prop) (w wr : World) (gt n m : Nat) (Z : List Zt) (kv hv : Value) : Prop where
  ex : ∃ s, Fl F w wr gt s ∧ HvI n s Z ∧ s.now ≤ m
  r : HvR F w wr Z kv hv
  fw : ∀ b, F b → w.heap.size ≤ b
theorem Fl.turnAdd {F G R : Nat → Prop} {w0 w w' : World} {gt : Nat} {s : St} (h : Fl F w0 w gt s) (k : But R w w') (hr : ∀ b, R b → F b ∧ w0.heap.size ≤ b) (hG : ∀ b, G b → F b ∨ (w.heap.size ≤ b ∧ b < w'.heap.size)) : Fl G w0 w' gt s := by
  obtain ⟨o, h1, h2⟩ := h.ex
  refine ⟨⟨o, h1.but k (fun b hb e => (h2 b hb).2 (hr b e).1), fun b hb => ⟨(h2 b hb).1, fun e => ?_⟩⟩, h.grow.then k (fun i hi e => by have := (hr i e).2; omega), fun b hb => ?_⟩
  · rcases hG b e with e | e
    · exact (h2 b hb).2 e
    · exact hb (h1.top b e.1)
  · rcases hG b hb with e | e
    · exact Nat.lt_of_lt_of_le (h.lt b e) k.size
    · exact e.2
section
variable {F : Nat → Prop} {w wr w' : World} {gt n m a : Nat} {s s' : St} {Z : List Zt} {kv hv : Value} {K : Int}
theorem HvR.to (h : HvR F w wr Z kv hv) (k : But (Fo F w) wr w') : HvR F w w' Z kv hv := ⟨h.rk.but k (fun _ hj e => e.2 hj) (fun _ h => h), h.rh.but k (fun _ hj e => e.2 hj) (fun _ h => h), h.va, h.ne⟩
theorem HvR.grow (h : HvR F w wr Z kv hv) (k : Grow wr w') : HvR F w w' Z kv hv := ⟨h.rk.but k (fun _ _ h => h) (fun _ h => h), h.rh.but k (fun _ _ h => h) (fun _ h => h), h.va, h.ne⟩
theorem HvW.wgrow (h : HvW F w wr gt n m Z kv hv) : Grow w wr := by obtain ⟨s, h1, -⟩ := h.ex; exact h1.grow
theorem HvW.grow (h : HvW F w wr gt n m Z kv hv) (k : Grow wr w') : HvW F w w' gt n m Z kv hv := by
  obtain ⟨s, h1, h2⟩ := h.ex
  exact ⟨⟨s, h1.then k, h2⟩, h.r.grow k, h.fw⟩
theorem HvW.le (h : HvW F w wr gt n m Z kv hv) : Z.length ≤ n := by
  obtain ⟨s, h1, h2, -⟩ := h.ex
  have := h1.ok.le
  rw [h2.most, ← h2.len] at this
  exact this
theorem HvW.box {w1 w3 : World} {g : Nat} (h : HvW F w wr gt n m Z kv hv) (k : Grow wr w1) (hg : g = wr.heap.size) (hl : g < w1.heap.size) (kb : But (· = g) w1 w3) : HvW (fun b => F b ∨ b = g) w w3 gt n m Z kv hv := by
  obtain ⟨s, h1, h2⟩ := h.ex
  have hs := h1.grow.size
  have hlt := h1.lt
  have hx : Fl (fun b => F b ∨ b = g) w w1 gt s := h1.add k (fun b e => e.elim .inl (fun e => .inr ⟨by omega, by omega⟩))
  have hne : ∀ j, F j → ¬ (j = g) := fun j hj e => by have := hlt j hj; omega
  refine ⟨⟨s, hx.turn kb (fun b e => ⟨.inr e, by omega⟩), h2⟩, ⟨(h.r.rk.but k (fun _ _ h => h) (fun _ h => h)).but kb hne (fun _ h => .inl h), (h.r.rh.but k (fun _ _ h => h) (fun _ h => h)).but kb hne (fun _ h => .inl h), h.r.va, h.r.ne⟩, fun b e => e.elim (h.fw b) (fun e => by omega)⟩
theorem hv_keys (h : HvW F w wr gt n m Z kv hv) : Calls Try.prog 17 #[ptr gt] wr fun e w' => (∃ a c, e = .returned (.slice a Z.length c)) ∧ HvW F w w' gt n m Z kv hv := by
  obtain ⟨s, h1, h2, h3⟩ := h.ex
  refine (fl_keys h1).mono ?_
  rintro e w' ⟨v, rfl, hk, hf⟩
  have hl : s.rising.length = Z.length := by
    rw [h2.len]
    have := (List.mergeSort_perm s.keys (fun x y => decide (x ≤ y))).length_eq
    unfold St.keys at this
    rw [List.length_map] at this
    exact this
  refine ⟨?_, h.grow hk.grow⟩
  have := hk.own
  rw [hl] at this
  obtain ⟨-, ⟨rfl, e0⟩ | ⟨g', c', cu, rfl, -⟩⟩ := this
  · exact ⟨none, 0, by rw [e0]⟩
  · exact ⟨_, _, rfl⟩
theorem hv_get {z : Zt} (h : HvW F w wr gt n m Z kv hv) (hz : z ∈ Z) (hm : m ≤ 10000) : Calls Try.prog 18 #[ptr gt, .int .i64 z.1] wr fun e w' => (∃ v, e = .returned (.tuple #[v, .int .i64 0]) ∧ Bs w' v z.2.2) ∧ HvW F w w' gt n (m + 1) Z kv hv := by
  obtain ⟨s, h1, h2, h3⟩ := h.ex
  obtain ⟨g1, g2⟩ := h2.at h1.ok hz
  refine (fl_get h1 (h.r.va z hz).2 g1 (by omega)).mono ?_
  rintro e w' ⟨v, rfl, how, -, hf, hb⟩
  rw [g2] at how
  exact ⟨⟨v, rfl, how.bs⟩, ⟨_, hf, ⟨h2.most, h2.pins, h2.mem⟩, by show s.now + 1 ≤ _; omega⟩, h.r.to hb, h.fw⟩
/-- Drop: of a key that isn't there. -/
theorem hv_dropNot (h : HvW F w wr gt n m Z kv hv) (hK : i64 K) (hn : ∀ z ∈ Z, z.1 ≠ K) : Calls Try.prog 15 #[ptr gt, .int .i64 K] wr fun e w' => e = .returned (.int .i64 5) ∧ HvW F w w' gt n m Z kv hv := by
  obtain ⟨s, h1, h2, h3⟩ := h.ex
  obtain ⟨g1, g2⟩ := h2.dropNot hn
  refine (fl_drop h1 hK).mono ?_
  rintro e w' ⟨rfl, hf, hb⟩
  rw [g2] at hf
  exact ⟨by rw [g1], ⟨s, hf, h2, h3⟩, h.r.to hb, h.fw⟩
theorem hv_putFull {v : Value} {b : List Nat} {q : Bool} (h : HvW F w wr gt n m Z kv hv) (hK : i64 K) (hn : ∀ z ∈ Z, z.1 ≠ K) (hl : ¬ Z.length < n) (hv' : Bf w (· < w.heap.size) v b) (hb : b.length ≤ 1000) :
    Calls Try.prog 16 #[ptr gt, .int .i64 K, v, .bool q] wr fun e w' => e = .returned (.int .i64 11) ∧ HvW F w w' gt n m Z kv hv := by
  obtain ⟨s, h1, h2, h3⟩ := h.ex
  obtain ⟨g1, g2⟩ := h2.putFull (b := b) (q := q) hn hl
  refine (fl_put h1 hK (xs := b) ⟨(hv'.but h1.grow (fun _ _ h => h)).1, fun h0 j hj => .inl (hv'.2 h0 j hj)⟩ (by omega)).mono ?_
  rintro e w' ⟨rfl, hf, hb⟩
  rw [g2] at hf
  exact ⟨by rw [g1], ⟨s, hf, h2, h3⟩, h.r.to hb, h.fw⟩
/-- What a call leaves amid: the table has what the rows are yet to have. -/
structure HvM (F : Nat → Prop) (w wr : World) (gt n m : Nat) (Z Z' : List Zt) (kv hv : Value) : Prop where
  ex : ∃ s, Fl F w wr gt s ∧ HvI n s Z' ∧ s.now ≤ m
  r : HvR F w wr Z kv hv
  fw : ∀ b, F b → w.heap.size ≤ b
theorem hv_drop {z x : Zt} (h : HvW F w wr gt n m Z kv hv) (ha : Z[a]? = some z) (hz : z.1 = K) (hx : Z[Z.length - 1]? = some x) : Calls Try.prog 15 #[ptr gt, .int .i64 K] wr fun e w' => e = .returned (.int .i64 0) ∧ HvM F w w' gt n m Z (rem Z a x) kv hv := by
  obtain ⟨s, h1, h2, h3⟩ := h.ex
  obtain ⟨g1, g2⟩ := h2.drop h1.ok ha hz hx
  have hK : i64 K := by rw [← hz]; exact (h.r.va z (List.mem_of_getElem? ha)).2
  refine (fl_drop h1 hK).mono ?_
  rintro e w' ⟨rfl, hf, hb⟩
  refine ⟨by rw [g1], ⟨_, hf, g2, ?_⟩, h.r.to hb, h.fw⟩
  unfold St.drop
  split <;> exact h3
theorem hv_put {v : Value} {b : List Nat} {q : Bool} {Z' : List Zt} (h : HvW F w wr gt n m Z kv hv) (hK : i64 K) (hp : ∀ s, HvI n s Z → Sok s → s.putc K = 0 ∧ HvI n (s.put K b q) Z') (hv' : Bf w (· < w.heap.size) v b) (hb : b.length ≤ 1000) :
    Calls Try.prog 16 #[ptr gt, .int .i64 K, v, .bool q] wr fun e w' => e = .returned (.int .i64 0) ∧ HvM F w w' gt n m Z Z' kv hv ∧ But (Fo F w) wr w' := by
  obtain ⟨s, h1, h2, h3⟩ := h.ex
  obtain ⟨g1, g2⟩ := hp s h2 h1.ok
  refine (fl_put h1 hK (xs := b) ⟨(hv'.but h1.grow (fun _ _ h => h)).1, fun h0 j hj => .inl (hv'.2 h0 j hj)⟩ (by omega)).mono ?_
  rintro e w' ⟨rfl, hf, hb⟩
  refine ⟨by rw [g1], ⟨⟨_, hf, g2, ?_⟩, h.r.to hb, h.fw⟩, hb⟩
  unfold St.put
  repeat (first | exact h3 | split)
end
section
variable {F : Nat → Prop} {w wr w' : World} {gt n m a gk ck gh ch l : Nat} {Z Z' : List Zt} {kv hv : Value} {z x : Zt}
/-- The last one is put in the place of one that went. -/
theorem HvM.cut (h : HvM F w wr gt n m Z (rem Z a x) (.slice (some ⟨gk, 0, none⟩) l ck) (.slice (some ⟨gh, 0, none⟩) l ch)) (hl : Z.length = l) (hx : Z[l - 1]? = some x) :
    HvW F w ((wr.setCell ⟨gk, a, none⟩ (iv x.1)).setCell ⟨gh, a, none⟩ x.2.1) gt n m (rem Z a x) (.slice (some ⟨gk, 0, none⟩) (l - 1) ck) (.slice (some ⟨gh, 0, none⟩) (l - 1) ch) := by
  subst hl
  obtain ⟨s, h1, h2⟩ := h.ex
  have fk := h.r.rk.inF gk rfl
  have fh := h.r.rh.inF gh rfl
  have hne : gk ≠ gh := fun e => h.r.ne gk rfl (by rw [e]; rfl)
  have k1 := But.set1 wr gk a (iv x.1)
  have k2 := But.set1 (wr.setCell ⟨gk, a, none⟩ (iv x.1)) gh a x.2.1
  refine ⟨⟨s, (h1.turn k1 (fun b e => by rw [e]; exact ⟨fk, h.fw _ fk⟩)).turn k2 (fun b e => by rw [e]; exact ⟨fh, h.fw _ fh⟩), h2⟩, ⟨?_, ?_, fun z hz => h.r.va z (rem_mem (List.mem_of_getElem? hx) hz), fun j hj e => hne ?_⟩, h.fw⟩
  · have r1 := ((h.r.rk.set a (iv x.1)).take (m := Z.length - 1) (by omega))
    have r2 : RowOf ((wr.setCell ⟨gk, a, none⟩ (iv x.1)).setCell ⟨gh, a, none⟩ x.2.1) F 3 1 (.slice (some ⟨gk, 0, none⟩) (Z.length - 1) ck) (Z.length - 1) _ := ⟨ownsRow_but r1.own k2 (fun j hj e => hne (by have hj' : some gk = some j := hj; rw [Option.some.inj hj', e])), r1.inF⟩
    rw [rem_len, rem_map (fun z : Zt => iv z.1)]
    unfold rem
    rw [List.length_map]
    rw [Nat.mul_one] at r2
    exact r2
  · have r0 : RowOf (wr.setCell ⟨gk, a, none⟩ (iv x.1)) F 31 1 (.slice (some ⟨gh, 0, none⟩) Z.length ch) Z.length _ := ⟨ownsRow_but h.r.rh.own k1 (fun j hj e => hne (by have hj' : some gh = some j := hj; rw [← e, Option.some.inj hj'])), h.r.rh.inF⟩
    have r1 := ((r0.set a x.2.1).take (m := Z.length - 1) (by omega))
    rw [rem_len, rem_map (fun z : Zt => z.2.1)]
    unfold rem
    rw [List.length_map]
    rw [Nat.mul_one] at r1
    exact r1
  · have hj' : some gk = some j := hj
    have e' : some gh = some j := e
    rw [Option.some.inj hj', Option.some.inj e']
/-- Other bytes at a place. -/
theorem HvM.lay {K : Int} {v : Value} {b : List Nat} (h : HvM F w wr gt n m Z (Z.set a (K, v, b)) kv (.slice (some ⟨gh, 0, none⟩) l ch)) (hl : Z.length = l) (ha : Z[a]? = some z) (hz : z.1 = K) (hv' : Bf w (· < w.heap.size) v b) :
    HvW F w (wr.setCell ⟨gh, a, none⟩ v) gt n m (Z.set a (K, v, b)) kv (.slice (some ⟨gh, 0, none⟩) l ch) := by
  subst hl
  obtain ⟨s, h1, h2⟩ := h.ex
  have fh := h.r.rh.inF gh rfl
  have k2 := But.set1 wr gh a v
  have hal : a < Z.length := (List.getElem?_eq_some_iff.1 ha).1
  have hkeys : (Z.set a (K, v, b)).map (fun z : Zt => iv z.1) = Z.map (fun z : Zt => iv z.1) := by
    rw [List.map_set]
    have h9 : (Z.map (fun z : Zt => iv z.1))[a]? = some (iv K) := by rw [List.getElem?_map, ha]; simp [hz]
    obtain ⟨hb1, hb2⟩ := List.getElem?_eq_some_iff.1 h9
    rw [← hb2, List.set_getElem_self]
  refine ⟨⟨s, h1.turn k2 (fun b e => by rw [e]; exact ⟨fh, h.fw _ fh⟩), h2⟩, ⟨?_, ?_, fun y hy => ?_, h.r.ne⟩, h.fw⟩
  · rw [List.length_set, hkeys]
    exact ⟨ownsRow_but h.r.rk.own k2 (fun j hj e => h.r.ne j hj (by rw [e]; rfl)), h.r.rk.inF⟩
  · rw [List.length_set, List.map_set]
    exact h.r.rh.set a v
  · rcases List.mem_or_eq_of_mem_set hy with h4 | h4
    · exact h.r.va y h4
    · rw [h4]
      refine ⟨hv', ?_⟩
      show i64 K
      rw [← hz]
      exact (h.r.va z (List.mem_of_getElem? ha)).2
/-- One more. -/
theorem HvM.more {K : Int} {v kv' hv' : Value} {b : List Nat} {w1 w2 w3 : World} (h : HvM F w wr gt n m Z (Z ++ [(K, v, b)]) kv hv) (hK : i64 K) (hb : Bf w (· < w.heap.size) v b) (k1 : Grow wr w1) (a1 : Appd w1 w2 3 1 kv kv' (l + 1) (Z.map (fun z => iv z.1) ++ [iv K])) (k2 : Grow w2 w3) (a2 : Appd w3 w' 31 1 hv hv' (l + 1) (Z.map (fun z => z.2.1) ++ [v])) (hs2 : w1.heap.size < w3.heap.size) (hl : Z.length = l) :
    HvW (fun b => F b ∨ kv'.ownBlock = some b ∨ hv'.ownBlock = some b) w w' gt n m (Z ++ [(K, v, b)]) kv' hv' := by
  subst hl
  obtain ⟨s, h1, h2⟩ := h.ex
  have hgs := h1.grow.size
  have e1 := k1.size
  have e2 := k2.size
  have f1 : Fl (fun b => F b ∨ kv'.ownBlock = some b) w w2 gt s := (h1.then k1).turnAdd a1.but (fun b e => ⟨h.r.rk.inF b e, h.fw b (h.r.rk.inF b e)⟩) (fun b e => by
    rcases e with e | e
    · exact .inl e
    · rcases a1.at' with g | g
      · exact .inl (h.r.rk.inF b (by rw [← g]; exact e))
      · rw [g] at e
        have := a1.lt b (by rw [g]; exact e)
        have := Option.some.inj e
        exact .inr ⟨by omega, by omega⟩)
  have f2 : Fl (fun b => F b ∨ kv'.ownBlock = some b ∨ hv'.ownBlock = some b) w w' gt s := (f1.then k2).turnAdd a2.but (fun b e => ⟨.inl (h.r.rh.inF b e), h.fw b (h.r.rh.inF b e)⟩) (fun b e => by
    rcases e with e | e | e
    · exact .inl (.inl e)
    · exact .inl (.inr e)
    · rcases a2.at' with g | g
      · exact .inl (.inl (h.r.rh.inF b (by rw [← g]; exact e)))
      · rw [g] at e
        have := a2.lt b (by rw [g]; exact e)
        have := Option.some.inj e
        exact .inr ⟨by omega, by omega⟩)
  have hlt := h1.lt
  have hkn : ∀ j, kv'.ownBlock = some j → hv.ownBlock ≠ some j ∧ j < w2.heap.size := fun j hj => by
    refine ⟨fun e => ?_, a1.lt j hj⟩
    rcases a1.at' with g | g
    · exact h.r.ne j (by rw [← g]; exact hj) e
    · rw [g] at hj
      have := Option.some.inj hj
      have := hlt j (h.r.rh.inF j e)
      omega
  refine ⟨⟨s, f2, h2⟩, ⟨⟨?_, fun k hk => .inr (.inl hk)⟩, ⟨?_, fun k hk => .inr (.inr hk)⟩, fun y hy => ?_, fun j hj e => ?_⟩, fun b e => ?_⟩
  · rw [List.length_append, List.length_singleton, List.map_append]
    exact ownsRow_but (ownsRow_grow a1.own k2) a2.but (fun j hj e => (hkn j hj).1 e)
  · rw [List.length_append, List.length_singleton, List.map_append]
    exact a2.own
  · rcases List.mem_append.1 hy with h4 | h4
    · exact h.r.va y h4
    · rw [show y = (K, v, b) by simpa using h4]
      exact ⟨hb, hK⟩
  · rcases a2.at' with g | g
    · exact (hkn j hj).1 (by rw [← g]; exact e)
    · rw [g] at e
      have := Option.some.inj e
      have := (hkn j hj).2
      omega
  · rcases e with e | e | e
    · exact h.fw b e
    · rcases a1.at' with g | g
      · exact h.fw b (h.r.rk.inF b (by rw [← g]; exact e))
      · rw [g] at e; have := Option.some.inj e; omega
    · rcases a2.at' with g | g
      · exact h.fw b (h.r.rh.inF b (by rw [← g]; exact e))
      · rw [g] at e; have := Option.some.inj e; omega
end
end Go.Proofs.Ytmlklmhochihbaa
