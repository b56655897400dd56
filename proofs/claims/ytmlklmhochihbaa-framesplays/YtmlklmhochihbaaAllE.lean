/- FrHvW, FxTwo, FxDoA, FxDoB, FxDoC, FxDoD, FxDoE, FxDoF, FxAlike. -/
import Derived.Test.YtmlklmhochihbaaAllD
import Derived.Test.YtmlklmhochihbaaAllC
import Derived.ProofKit
import Derived.OpenShut
import Derived.ChangeOld
import Derived.Below
/- FramesHave: what was put, beside the table. -/
namespace Go.Proofs.Ytmlklmhochihbaa
open Go.ChangeShapes Go.WideShapes Go.ChangeAt Go.RowKit

/-- A key, the slice that was put, its bytes. -/
abbrev Zt := Int × Value × List Nat
structure HvI (n : Nat) (s : St) (Z : List Zt) : Prop where
  most : s.most = n
  pins : s.pins = []
  mem : (Z.map (fun z => (z.1, z.2.2))).Perm (s.fr.map (fun e => (e.1, e.2.1)))
section
variable {n a : Nat} {s : St} {Z : List Zt} {K : Int} {v : Value} {b : List Nat} {q : Bool}
theorem HvI.keys (h : HvI n s Z) : (Z.map (·.1)).Perm s.keys := by
  have := h.mem.map (fun p : Int × List Nat => p.1)
  rw [List.map_map, List.map_map] at this
  exact this
theorem HvI.len (h : HvI n s Z) : Z.length = s.fr.length := by
  have := h.mem.length_eq
  rwa [List.length_map, List.length_map] at this
theorem HvI.nd (h : HvI n s Z) (hok : Sok s) : (Z.map (·.1)).Nodup := h.keys.nodup_iff.2 hok.nd
theorem HvI.has (h : HvI n s Z) : s.has K = true ↔ ∃ z ∈ Z, z.1 = K := by
  rw [show s.has K = hasK s.fr K from rfl, hasK_keys]
  rw [show s.fr.map (·.1) = s.keys from rfl, ← h.keys.mem_iff, List.mem_map]
theorem HvI.at (h : HvI n s Z) (hok : Sok s) {z : Zt} (hz : z ∈ Z) : s.has z.1 = true ∧ s.bytes z.1 = z.2.2 := by
  refine ⟨h.has.2 ⟨z, hz, rfl⟩, ?_⟩
  have h1 : (z.1, z.2.2) ∈ s.fr.map (fun e => (e.1, e.2.1)) := h.mem.mem_iff.1 (List.mem_map.2 ⟨z, hz, rfl⟩)
  obtain ⟨e, he, h2⟩ := List.mem_map.1 h1
  have h3 := (St.at_mark hok he).2
  simp only [Prod.mk.injEq] at h2
  rw [← h2.1, h3, h2.2]
theorem HvI.dropNot (h : HvI n s Z) (hn : ∀ z ∈ Z, z.1 ≠ K) : s.dropc K = 5 ∧ s.drop K = s := by
  have hh : s.has K = false := by
    cases hh : s.has K with
    | false => rfl
    | true => obtain ⟨z, hz, e⟩ := h.has.1 hh; exact absurd e (hn z hz)
  have : s.dropc K = 5 := by unfold St.dropc; rw [hh]; rfl
  exact ⟨this, by unfold St.drop; rw [this]; rfl⟩
theorem HvI.drop (h : HvI n s Z) (hok : Sok s) {z x : Zt} (ha : Z[a]? = some z) (hz : z.1 = K) (hx : Z[Z.length - 1]? = some x) : s.dropc K = 0 ∧ HvI n (s.drop K) (rem Z a x) := by
  have hh : s.has K = true := h.has.2 ⟨z, List.mem_of_getElem? ha, hz⟩
  have hp : s.pinned K = false := by unfold St.pinned; rw [h.pins]; rfl
  have hc : s.dropc K = 0 := by unfold St.dropc; rw [hh, hp]; rfl
  have e1 : s.drop K = { s with fr := s.fr.filter (fun e => !(e.1 == K)), hl := s.hl.filter (fun e => !(e.1 == K)) } := by unfold St.drop; rw [if_pos hc]
  refine ⟨hc, ?_⟩
  rw [e1]
  refine ⟨h.most, h.pins, ?_⟩
  have hpm := rem_perm ha hx
  have hnd : ((z :: rem Z a x).map (·.1)).Nodup := (hpm.map _).nodup_iff.1 (h.nd hok)
  rw [List.map_cons, List.nodup_cons] at hnd
  have h2 := (((hpm.map (fun z : Zt => (z.1, z.2.2))).symm.trans h.mem).filter (fun p => !(p.1 == K)))
  rw [List.map_cons, List.filter_cons, if_neg (by simp [hz])] at h2
  have e2 : ((rem Z a x).map (fun z : Zt => (z.1, z.2.2))).filter (fun p => !(p.1 == K)) = (rem Z a x).map (fun z : Zt => (z.1, z.2.2)) := by
    rw [List.filter_eq_self]
    intro p hp
    obtain ⟨y, hy, rfl⟩ := List.mem_map.1 hp
    have : y.1 ≠ K := fun e => hnd.1 (List.mem_map.2 ⟨y, hy, by rw [e, hz]⟩)
    simpa using this
  rw [e2, List.filter_map] at h2
  exact h2
theorem HvI.put1 (h : HvI n s Z) (hn : ∀ z ∈ Z, z.1 ≠ K) (hl : Z.length < n) : s.putc K = 0 ∧ HvI n (s.put K b q) (Z ++ [(K, v, b)]) := by
  have hh : s.has K = false := by
    cases hh : s.has K with
    | false => rfl
    | true => obtain ⟨z, hz, e⟩ := h.has.1 hh; exact absurd e (hn z hz)
  have hf : ¬ (s.most ≤ s.fr.length) := by rw [h.most, ← h.len]; omega
  refine ⟨by unfold St.putc; rw [hh, if_neg (by decide), if_neg hf], ?_⟩
  unfold St.put
  rw [if_neg (by rw [hh]; decide), if_neg hf]
  refine ⟨h.most, h.pins, ?_⟩
  rw [List.map_append, List.map_append]
  exact h.mem.append (List.Perm.refl _)
theorem HvI.putFull (h : HvI n s Z) (hn : ∀ z ∈ Z, z.1 ≠ K) (hl : ¬ Z.length < n) : s.putc K = 11 ∧ s.put K b q = s := by
  have hh : s.has K = false := by
    cases hh : s.has K with
    | false => rfl
    | true => obtain ⟨z, hz, e⟩ := h.has.1 hh; exact absurd e (hn z hz)
  have hf : s.most ≤ s.fr.length := by rw [h.most, ← h.len]; omega
  exact ⟨by unfold St.putc; rw [hh, if_neg (by decide), if_pos hf], by unfold St.put; rw [if_neg (by rw [hh]; decide), if_pos hf]⟩
theorem HvI.put2 (h : HvI n s Z) (hok : Sok s) {z : Zt} (ha : Z[a]? = some z) (hz : z.1 = K) : s.putc K = 0 ∧ HvI n (s.put K b q) (Z.set a (K, v, b)) := by
  have hh : s.has K = true := h.has.2 ⟨z, List.mem_of_getElem? ha, hz⟩
  refine ⟨by unfold St.putc; rw [hh, if_pos rfl], ?_⟩
  unfold St.put
  rw [if_pos hh]
  refine ⟨h.most, h.pins, ?_⟩
  have h2 := h.mem.map (fun p : Int × List Nat => if p.1 == K then (p.1, b) else p)
  have e1 : (s.fr.map (fun e : FrE => (e.1, e.2.1))).map (fun p : Int × List Nat => if p.1 == K then (p.1, b) else p) = (St.laid s.fr K b q).map (fun e : FrE => (e.1, e.2.1)) := by
    unfold St.laid
    rw [List.map_map, List.map_map]
    apply List.map_congr_left
    intro e _
    simp only [Function.comp]
    split <;> rfl
  have e2 : (Z.map (fun z : Zt => (z.1, z.2.2))).map (fun p : Int × List Nat => if p.1 == K then (p.1, b) else p) = (Z.set a (K, v, b)).map (fun z : Zt => (z.1, z.2.2)) := by
    have hl : a < Z.length := (List.getElem?_eq_some_iff.1 ha).1
    rw [List.map_map]
    apply List.ext_getElem?
    intro j
    rw [List.getElem?_map, List.getElem?_map, List.getElem?_set]
    by_cases hj : a = j
    · subst hj
      rw [if_pos rfl, if_pos hl, ha]
      simp [hz]
    · rw [if_neg hj]
      cases hzj : Z[j]? with
      | none => rfl
      | some y =>
        have hne : y.1 ≠ K := fun e => hj (by
          have hj2 : j < Z.length := (List.getElem?_eq_some_iff.1 hzj).1
          refine (List.getElem?_inj (l := Z.map (·.1)) (by rw [List.length_map]; exact hl) (h.nd hok)).1 ?_
          rw [List.getElem?_map, List.getElem?_map, ha, hzj]
          simp [hz, e])
        simp [hne]
  rw [e1, e2] at h2
  exact h2
end
/-- The law's rows. -/
structure HvR (F : Nat → Prop) (w wr : World) (Z : List Zt) (kv hv : Value) : Prop where
  rk : RowOf wr F 3 1 kv Z.length (Z.map fun z => iv z.1)
  rh : RowOf wr F 31 1 hv Z.length (Z.map fun z => z.2.1)
  va : ∀ z ∈ Z, Bf w (· < w.heap.size) z.2.1 z.2.2 ∧ i64 z.1
  ne : ∀ j, kv.ownBlock = some j → hv.ownBlock ≠ some j
structure HvW (F : Nat → Prop) (w wr : World) (gt n m : Nat) (Z : List Zt) (kv hv : Value) : Prop where
  ex : ∃ s, Fl F w wr gt s ∧ HvI n s Z ∧ s.now ≤ m
  r : HvR F w wr Z kv hv
  fw : ∀ b, F b → w.heap.size ≤ b
theorem Fl.turnAdd {F G R : Nat → Prop} {w0 w w' : World} {gt : Nat} {s : St} (h : Fl F w0 w gt s) (k : But R w w') (hr : ∀ b, R b → F b ∧ w0.heap.size ≤ b) (hG : ∀ b, G b → F b ∨ (w.heap.size ≤ b ∧ b < w'.heap.size)) : Fl G w0 w' gt s := by
  obtain ⟨o, h1, h2⟩ := h.ex
  refine ⟨⟨o, h1.but k (fun b hb e => (h2 b hb).2 (hr b e).1), fun b hb => ⟨(h2 b hb).1, fun e => ?_⟩⟩, h.grow.then k (fun i hi e => by have := (hr i e).2; omega), fun b hb => ?_⟩
  · rcases hG b e with e | e
    · exact (h2 b hb).2 e
    · exact hb (h1.top b e.1)
  · rcases hG b hb with e | e
    · exact Nat.lt_of_lt_of_le (h.lt b e) k.size
    · exact e.2
section
variable {F : Nat → Prop} {w wr w' : World} {gt n m a : Nat} {s s' : St} {Z : List Zt} {kv hv : Value} {K : Int}
theorem HvR.to (h : HvR F w wr Z kv hv) (k : But (Fo F w) wr w') : HvR F w w' Z kv hv := ⟨h.rk.but k (fun _ hj e => e.2 hj) (fun _ h => h), h.rh.but k (fun _ hj e => e.2 hj) (fun _ h => h), h.va, h.ne⟩
theorem HvR.grow (h : HvR F w wr Z kv hv) (k : Grow wr w') : HvR F w w' Z kv hv := ⟨h.rk.but k (fun _ _ h => h) (fun _ h => h), h.rh.but k (fun _ _ h => h) (fun _ h => h), h.va, h.ne⟩
theorem HvW.wgrow (h : HvW F w wr gt n m Z kv hv) : Grow w wr := by obtain ⟨s, h1, -⟩ := h.ex; exact h1.grow
theorem HvW.grow (h : HvW F w wr gt n m Z kv hv) (k : Grow wr w') : HvW F w w' gt n m Z kv hv := by
  obtain ⟨s, h1, h2⟩ := h.ex
  exact ⟨⟨s, h1.then k, h2⟩, h.r.grow k, h.fw⟩
theorem HvW.le (h : HvW F w wr gt n m Z kv hv) : Z.length ≤ n := by
  obtain ⟨s, h1, h2, -⟩ := h.ex
  have := h1.ok.le
  rw [h2.most, ← h2.len] at this
  exact this
theorem HvW.box {w1 w3 : World} {g : Nat} (h : HvW F w wr gt n m Z kv hv) (k : Grow wr w1) (hg : g = wr.heap.size) (hl : g < w1.heap.size) (kb : But (· = g) w1 w3) : HvW (fun b => F b ∨ b = g) w w3 gt n m Z kv hv := by
  obtain ⟨s, h1, h2⟩ := h.ex
  have hs := h1.grow.size
  have hlt := h1.lt
  have hx : Fl (fun b => F b ∨ b = g) w w1 gt s := h1.add k (fun b e => e.elim .inl (fun e => .inr ⟨by omega, by omega⟩))
  have hne : ∀ j, F j → ¬ (j = g) := fun j hj e => by have := hlt j hj; omega
  refine ⟨⟨s, hx.turn kb (fun b e => ⟨.inr e, by omega⟩), h2⟩, ⟨(h.r.rk.but k (fun _ _ h => h) (fun _ h => h)).but kb hne (fun _ h => .inl h), (h.r.rh.but k (fun _ _ h => h) (fun _ h => h)).but kb hne (fun _ h => .inl h), h.r.va, h.r.ne⟩, fun b e => e.elim (h.fw b) (fun e => by omega)⟩
theorem hv_keys (h : HvW F w wr gt n m Z kv hv) : Calls Try.prog 17 #[ptr gt] wr fun e w' => (∃ a c, e = .returned (.slice a Z.length c)) ∧ HvW F w w' gt n m Z kv hv := by
  obtain ⟨s, h1, h2, h3⟩ := h.ex
  refine (fl_keys h1).mono ?_
  rintro e w' ⟨v, rfl, hk, hf⟩
  have hl : s.rising.length = Z.length := by
    rw [h2.len]
    have := (List.mergeSort_perm s.keys (fun x y => decide (x ≤ y))).length_eq
    unfold St.keys at this
    rw [List.length_map] at this
    exact this
  refine ⟨?_, h.grow hk.grow⟩
  have := hk.own
  rw [hl] at this
  obtain ⟨-, ⟨rfl, e0⟩ | ⟨g', c', cu, rfl, -⟩⟩ := this
  · exact ⟨none, 0, by rw [e0]⟩
  · exact ⟨_, _, rfl⟩
theorem hv_get {z : Zt} (h : HvW F w wr gt n m Z kv hv) (hz : z ∈ Z) (hm : m ≤ 10000) : Calls Try.prog 18 #[ptr gt, .int .i64 z.1] wr fun e w' => (∃ v, e = .returned (.tuple #[v, .int .i64 0]) ∧ Bs w' v z.2.2) ∧ HvW F w w' gt n (m + 1) Z kv hv := by
  obtain ⟨s, h1, h2, h3⟩ := h.ex
  obtain ⟨g1, g2⟩ := h2.at h1.ok hz
  refine (fl_get h1 (h.r.va z hz).2 g1 (by omega)).mono ?_
  rintro e w' ⟨v, rfl, how, -, hf, hb⟩
  rw [g2] at how
  exact ⟨⟨v, rfl, how.bs⟩, ⟨_, hf, ⟨h2.most, h2.pins, h2.mem⟩, by show s.now + 1 ≤ _; omega⟩, h.r.to hb, h.fw⟩
/-- Drop: of a key that isn't there. -/
theorem hv_dropNot (h : HvW F w wr gt n m Z kv hv) (hK : i64 K) (hn : ∀ z ∈ Z, z.1 ≠ K) : Calls Try.prog 15 #[ptr gt, .int .i64 K] wr fun e w' => e = .returned (.int .i64 5) ∧ HvW F w w' gt n m Z kv hv := by
  obtain ⟨s, h1, h2, h3⟩ := h.ex
  obtain ⟨g1, g2⟩ := h2.dropNot hn
  refine (fl_drop h1 hK).mono ?_
  rintro e w' ⟨rfl, hf, hb⟩
  rw [g2] at hf
  exact ⟨by rw [g1], ⟨s, hf, h2, h3⟩, h.r.to hb, h.fw⟩
theorem hv_putFull {v : Value} {b : List Nat} {q : Bool} (h : HvW F w wr gt n m Z kv hv) (hK : i64 K) (hn : ∀ z ∈ Z, z.1 ≠ K) (hl : ¬ Z.length < n) (hv' : Bf w (· < w.heap.size) v b) (hb : b.length ≤ 1000) :
    Calls Try.prog 16 #[ptr gt, .int .i64 K, v, .bool q] wr fun e w' => e = .returned (.int .i64 11) ∧ HvW F w w' gt n m Z kv hv := by
  obtain ⟨s, h1, h2, h3⟩ := h.ex
  obtain ⟨g1, g2⟩ := h2.putFull (b := b) (q := q) hn hl
  refine (fl_put h1 hK (xs := b) ⟨(hv'.but h1.grow (fun _ _ h => h)).1, fun h0 j hj => .inl (hv'.2 h0 j hj)⟩ (by omega)).mono ?_
  rintro e w' ⟨rfl, hf, hb⟩
  rw [g2] at hf
  exact ⟨by rw [g1], ⟨s, hf, h2, h3⟩, h.r.to hb, h.fw⟩
/-- What a call leaves amid: the table has what the rows are yet to have. -/
structure HvM (F : Nat → Prop) (w wr : World) (gt n m : Nat) (Z Z' : List Zt) (kv hv : Value) : Prop where
  ex : ∃ s, Fl F w wr gt s ∧ HvI n s Z' ∧ s.now ≤ m
  r : HvR F w wr Z kv hv
  fw : ∀ b, F b → w.heap.size ≤ b
theorem hv_drop {z x : Zt} (h : HvW F w wr gt n m Z kv hv) (ha : Z[a]? = some z) (hz : z.1 = K) (hx : Z[Z.length - 1]? = some x) : Calls Try.prog 15 #[ptr gt, .int .i64 K] wr fun e w' => e = .returned (.int .i64 0) ∧ HvM F w w' gt n m Z (rem Z a x) kv hv := by
  obtain ⟨s, h1, h2, h3⟩ := h.ex
  obtain ⟨g1, g2⟩ := h2.drop h1.ok ha hz hx
  have hK : i64 K := by rw [← hz]; exact (h.r.va z (List.mem_of_getElem? ha)).2
  refine (fl_drop h1 hK).mono ?_
  rintro e w' ⟨rfl, hf, hb⟩
  refine ⟨by rw [g1], ⟨_, hf, g2, ?_⟩, h.r.to hb, h.fw⟩
  unfold St.drop
  split <;> exact h3
theorem hv_put {v : Value} {b : List Nat} {q : Bool} {Z' : List Zt} (h : HvW F w wr gt n m Z kv hv) (hK : i64 K) (hp : ∀ s, HvI n s Z → Sok s → s.putc K = 0 ∧ HvI n (s.put K b q) Z') (hv' : Bf w (· < w.heap.size) v b) (hb : b.length ≤ 1000) :
    Calls Try.prog 16 #[ptr gt, .int .i64 K, v, .bool q] wr fun e w' => e = .returned (.int .i64 0) ∧ HvM F w w' gt n m Z Z' kv hv ∧ But (Fo F w) wr w' := by
  obtain ⟨s, h1, h2, h3⟩ := h.ex
  obtain ⟨g1, g2⟩ := hp s h2 h1.ok
  refine (fl_put h1 hK (xs := b) ⟨(hv'.but h1.grow (fun _ _ h => h)).1, fun h0 j hj => .inl (hv'.2 h0 j hj)⟩ (by omega)).mono ?_
  rintro e w' ⟨rfl, hf, hb⟩
  refine ⟨by rw [g1], ⟨⟨_, hf, g2, ?_⟩, h.r.to hb, h.fw⟩, hb⟩
  unfold St.put
  repeat (first | exact h3 | split)
end
section
variable {F : Nat → Prop} {w wr w' : World} {gt n m a gk ck gh ch l : Nat} {Z Z' : List Zt} {kv hv : Value} {z x : Zt}
/-- The last one is put in the place of one that went. -/
theorem HvM.cut (h : HvM F w wr gt n m Z (rem Z a x) (.slice (some ⟨gk, 0, none⟩) l ck) (.slice (some ⟨gh, 0, none⟩) l ch)) (hl : Z.length = l) (hx : Z[l - 1]? = some x) :
    HvW F w ((wr.setCell ⟨gk, a, none⟩ (iv x.1)).setCell ⟨gh, a, none⟩ x.2.1) gt n m (rem Z a x) (.slice (some ⟨gk, 0, none⟩) (l - 1) ck) (.slice (some ⟨gh, 0, none⟩) (l - 1) ch) := by
  subst hl
  obtain ⟨s, h1, h2⟩ := h.ex
  have fk := h.r.rk.inF gk rfl
  have fh := h.r.rh.inF gh rfl
  have hne : gk ≠ gh := fun e => h.r.ne gk rfl (by rw [e]; rfl)
  have k1 := But.set1 wr gk a (iv x.1)
  have k2 := But.set1 (wr.setCell ⟨gk, a, none⟩ (iv x.1)) gh a x.2.1
  refine ⟨⟨s, (h1.turn k1 (fun b e => by rw [e]; exact ⟨fk, h.fw _ fk⟩)).turn k2 (fun b e => by rw [e]; exact ⟨fh, h.fw _ fh⟩), h2⟩, ⟨?_, ?_, fun z hz => h.r.va z (rem_mem (List.mem_of_getElem? hx) hz), fun j hj e => hne ?_⟩, h.fw⟩
  · have r1 := ((h.r.rk.set a (iv x.1)).take (m := Z.length - 1) (by omega))
    have r2 : RowOf ((wr.setCell ⟨gk, a, none⟩ (iv x.1)).setCell ⟨gh, a, none⟩ x.2.1) F 3 1 (.slice (some ⟨gk, 0, none⟩) (Z.length - 1) ck) (Z.length - 1) _ := ⟨ownsRow_but r1.own k2 (fun j hj e => hne (by have hj' : some gk = some j := hj; rw [Option.some.inj hj', e])), r1.inF⟩
    rw [rem_len, rem_map (fun z : Zt => iv z.1)]
    unfold rem
    rw [List.length_map]
    rw [Nat.mul_one] at r2
    exact r2
  · have r0 : RowOf (wr.setCell ⟨gk, a, none⟩ (iv x.1)) F 31 1 (.slice (some ⟨gh, 0, none⟩) Z.length ch) Z.length _ := ⟨ownsRow_but h.r.rh.own k1 (fun j hj e => hne (by have hj' : some gh = some j := hj; rw [← e, Option.some.inj hj'])), h.r.rh.inF⟩
    have r1 := ((r0.set a x.2.1).take (m := Z.length - 1) (by omega))
    rw [rem_len, rem_map (fun z : Zt => z.2.1)]
    unfold rem
    rw [List.length_map]
    rw [Nat.mul_one] at r1
    exact r1
  · have hj' : some gk = some j := hj
    have e' : some gh = some j := e
    rw [Option.some.inj hj', Option.some.inj e']
/-- Other bytes at a place. -/
theorem HvM.lay {K : Int} {v : Value} {b : List Nat} (h : HvM F w wr gt n m Z (Z.set a (K, v, b)) kv (.slice (some ⟨gh, 0, none⟩) l ch)) (hl : Z.length = l) (ha : Z[a]? = some z) (hz : z.1 = K) (hv' : Bf w (· < w.heap.size) v b) :
    HvW F w (wr.setCell ⟨gh, a, none⟩ v) gt n m (Z.set a (K, v, b)) kv (.slice (some ⟨gh, 0, none⟩) l ch) := by
  subst hl
  obtain ⟨s, h1, h2⟩ := h.ex
  have fh := h.r.rh.inF gh rfl
  have k2 := But.set1 wr gh a v
  have hal : a < Z.length := (List.getElem?_eq_some_iff.1 ha).1
  have hkeys : (Z.set a (K, v, b)).map (fun z : Zt => iv z.1) = Z.map (fun z : Zt => iv z.1) := by
    rw [List.map_set]
    have h9 : (Z.map (fun z : Zt => iv z.1))[a]? = some (iv K) := by rw [List.getElem?_map, ha]; simp [hz]
    obtain ⟨hb1, hb2⟩ := List.getElem?_eq_some_iff.1 h9
    rw [← hb2, List.set_getElem_self]
  refine ⟨⟨s, h1.turn k2 (fun b e => by rw [e]; exact ⟨fh, h.fw _ fh⟩), h2⟩, ⟨?_, ?_, fun y hy => ?_, h.r.ne⟩, h.fw⟩
  · rw [List.length_set, hkeys]
    exact ⟨ownsRow_but h.r.rk.own k2 (fun j hj e => h.r.ne j hj (by rw [e]; rfl)), h.r.rk.inF⟩
  · rw [List.length_set, List.map_set]
    exact h.r.rh.set a v
  · rcases List.mem_or_eq_of_mem_set hy with h4 | h4
    · exact h.r.va y h4
    · rw [h4]
      refine ⟨hv', ?_⟩
      show i64 K
      rw [← hz]
      exact (h.r.va z (List.mem_of_getElem? ha)).2
/-- One more. -/
theorem HvM.more {K : Int} {v kv' hv' : Value} {b : List Nat} {w1 w2 w3 : World} (h : HvM F w wr gt n m Z (Z ++ [(K, v, b)]) kv hv) (hK : i64 K) (hb : Bf w (· < w.heap.size) v b) (k1 : Grow wr w1) (a1 : Appd w1 w2 3 1 kv kv' (l + 1) (Z.map (fun z => iv z.1) ++ [iv K])) (k2 : Grow w2 w3) (a2 : Appd w3 w' 31 1 hv hv' (l + 1) (Z.map (fun z => z.2.1) ++ [v])) (hs2 : w1.heap.size < w3.heap.size) (hl : Z.length = l) :
    HvW (fun b => F b ∨ kv'.ownBlock = some b ∨ hv'.ownBlock = some b) w w' gt n m (Z ++ [(K, v, b)]) kv' hv' := by
  subst hl
  obtain ⟨s, h1, h2⟩ := h.ex
  have hgs := h1.grow.size
  have e1 := k1.size
  have e2 := k2.size
  have f1 : Fl (fun b => F b ∨ kv'.ownBlock = some b) w w2 gt s := (h1.then k1).turnAdd a1.but (fun b e => ⟨h.r.rk.inF b e, h.fw b (h.r.rk.inF b e)⟩) (fun b e => by
    rcases e with e | e
    · exact .inl e
    · rcases a1.at' with g | g
      · exact .inl (h.r.rk.inF b (by rw [← g]; exact e))
      · rw [g] at e
        have := a1.lt b (by rw [g]; exact e)
        have := Option.some.inj e
        exact .inr ⟨by omega, by omega⟩)
  have f2 : Fl (fun b => F b ∨ kv'.ownBlock = some b ∨ hv'.ownBlock = some b) w w' gt s := (f1.then k2).turnAdd a2.but (fun b e => ⟨.inl (h.r.rh.inF b e), h.fw b (h.r.rh.inF b e)⟩) (fun b e => by
    rcases e with e | e | e
    · exact .inl (.inl e)
    · exact .inl (.inr e)
    · rcases a2.at' with g | g
      · exact .inl (.inl (h.r.rh.inF b (by rw [← g]; exact e)))
      · rw [g] at e
        have := a2.lt b (by rw [g]; exact e)
        have := Option.some.inj e
        exact .inr ⟨by omega, by omega⟩)
  have hlt := h1.lt
  have hkn : ∀ j, kv'.ownBlock = some j → hv.ownBlock ≠ some j ∧ j < w2.heap.size := fun j hj => by
    refine ⟨fun e => ?_, a1.lt j hj⟩
    rcases a1.at' with g | g
    · exact h.r.ne j (by rw [← g]; exact hj) e
    · rw [g] at hj
      have := Option.some.inj hj
      have := hlt j (h.r.rh.inF j e)
      omega
  refine ⟨⟨s, f2, h2⟩, ⟨⟨?_, fun k hk => .inr (.inl hk)⟩, ⟨?_, fun k hk => .inr (.inr hk)⟩, fun y hy => ?_, fun j hj e => ?_⟩, fun b e => ?_⟩
  · rw [List.length_append, List.length_singleton, List.map_append]
    exact ownsRow_but (ownsRow_grow a1.own k2) a2.but (fun j hj e => (hkn j hj).1 e)
  · rw [List.length_append, List.length_singleton, List.map_append]
    exact a2.own
  · rcases List.mem_append.1 hy with h4 | h4
    · exact h.r.va y h4
    · rw [show y = (K, v, b) by simpa using h4]
      exact ⟨hb, hK⟩
  · rcases a2.at' with g | g
    · exact (hkn j hj).1 (by rw [← g]; exact e)
    · rw [g] at e
      have := Option.some.inj e
      have := (hkn j hj).2
      omega
  · rcases e with e | e | e
    · exact h.fw b e
    · rcases a1.at' with g | g
      · exact h.fw b (h.r.rk.inF b (by rw [← g]; exact e))
      · rw [g] at e; have := Option.some.inj e; omega
    · rcases a2.at' with g | g
      · exact h.fw b (h.r.rh.inF b (by rw [← g]; exact e))
      · rw [g] at e; have := Option.some.inj e; omega
end
end Go.Proofs.Ytmlklmhochihbaa
/- Both tables in one memory, and what is the law's own. -/
namespace Go.Proofs.Ytmlklmhochihbaa
open Go.RowKit

structure Tx (Q : Nat → Prop) (wQ : World) (G : Nat → Prop) (w0 w : World) (gt gx : Nat) (s x : St) : Prop where
  qg : ∀ b, Q b → G b
  kp : ∀ b, Q b → w.heap[b]? = wQ.heap[b]?
  ex : ∃ ro, Rx w ro gx x ∧ Fl (fun b => ro b ≠ .none ∨ G b) w0 w gt s ∧ ∀ b, ro b ≠ .none → w0.heap.size ≤ b ∧ ¬ G b
  gw : ∀ b, G b → w0.heap.size ≤ b
section
variable {Q G H : Nat → Prop} {wQ w0 w w' : World} {gt gx : Nat} {s s' x x' : St} {R : Nat → Prop} {f : FuncId} {args : Array Value} {r : Value}
theorem Tx.wgrow (h : Tx Q wQ G w0 w gt gx s x) : Grow w0 w := by obtain ⟨ro, -, h2, -⟩ := h.ex; exact h2.grow
theorem Tx.then (h : Tx Q wQ G w0 w gt gx s x) (k : Grow w w') : Tx Q wQ G w0 w' gt gx s x := by
  obtain ⟨ro, h1, h2, h3⟩ := h.ex
  exact ⟨h.qg, fun b hb => (k.block b (h2.lt b (.inr (h.qg b hb))) (fun h => h)).trans (h.kp b hb), ⟨ro, h1.grow k, h2.then k, h3⟩, h.gw⟩
theorem Tx.okS (h : Tx Q wQ G w0 w gt gx s x) : Sok s := by obtain ⟨ro, -, h2, -⟩ := h.ex; exact h2.ok
theorem Tx.lt (h : Tx Q wQ G w0 w gt gx s x) : ∀ b, G b → b < w.heap.size := fun b hb => by obtain ⟨ro, -, h2, -⟩ := h.ex; exact h2.lt b (.inr hb)
/-- New memory is the law's. -/
theorem Tx.add (h : Tx Q wQ G w0 w gt gx s x) (k : Grow w w') (hQ : ∀ b, Q b → H b) (hH : ∀ b, H b → G b ∨ (w.heap.size ≤ b ∧ b < w'.heap.size)) : Tx Q wQ H w0 w' gt gx s x := by
  obtain ⟨ro, h1, h2, h3⟩ := h.ex
  have hs := h2.grow.size
  refine ⟨hQ, (h.then k).kp, ⟨ro, h1.grow k, h2.add k (fun b e => ?_), fun b hb => ⟨(h3 b hb).1, fun e => ?_⟩⟩, fun b hb => ?_⟩
  · rcases e with e | e
    · exact .inl (.inl e)
    · exact (hH b e).elim (fun e => .inl (.inr e)) .inr
  · rcases hH b e with e | e
    · exact (h3 b hb).2 e
    · exact hb (h1.top b e.1)
  · rcases hH b hb with e | e
    · exact h.gw b e
    · omega
theorem Tx.less (h : Tx Q wQ G w0 w gt gx s x) (hQ : ∀ b, Q b → H b) (hH : ∀ b, H b → G b) : Tx Q wQ H w0 w gt gx s x := h.add (But.refl _ _) hQ (fun b hb => .inl (hH b hb))
/-- The law writes into what is its own. -/
theorem Tx.turn (h : Tx Q wQ G w0 w gt gx s x) (k : But R w w') (hR : ∀ b, R b → G b ∧ ¬ Q b) : Tx Q wQ G w0 w' gt gx s x := by
  obtain ⟨ro, h1, h2, h3⟩ := h.ex
  exact ⟨h.qg, fun b hb => (k.block b (h2.lt b (.inr (h.qg b hb))) (fun e => (hR b e).2 hb)).trans (h.kp b hb), ⟨ro, h1.but k (fun b hb e => (h3 b hb).2 (hR b e).1), h2.turn k (fun b e => ⟨.inr (hR b e).1, h.gw b (hR b e).1⟩), h3⟩, h.gw⟩
/-- What a call on either leaves of the law's own. -/
def Kept (G : Nat → Prop) (w w' : World) : Prop := But (fun b => ¬ G b) w w'
theorem Tx.callT {E : Value → World → Prop} (h : Tx Q wQ G w0 w gt gx s x) (c : ∀ F, Fl F w0 w gt s → (∀ b, G b → F b) → Calls Try.prog f args w fun e w' => ∃ v, e = .returned v ∧ E v w' ∧ Fl F w0 w' gt s' ∧ But (Fo F w0) w w') :
    Calls Try.prog f args w fun e w' => ∃ v, e = .returned v ∧ E v w' ∧ Tx Q wQ G w0 w' gt gx s' x ∧ Kept G w w' := by
  obtain ⟨ro, h1, h2, h3⟩ := h.ex
  refine (c _ h2 (fun b hb => .inr hb)).mono ?_
  rintro e w' ⟨v, rfl, hE, hf, hb⟩
  exact ⟨v, rfl, hE, ⟨h.qg, fun b hq => (hb.block b (h2.lt b (.inr (h.qg b hq))) (fun e => e.2 (.inr (h.qg b hq)))).trans (h.kp b hq), ⟨ro, h1.but hb (fun b hb e => e.2 (.inl hb)), hf, h3⟩, h.gw⟩, hb.mono (fun b _ e hg => e.2 (.inr hg))⟩
theorem Tx.toX {ro : Owner} (hqg : ∀ b, Q b → G b) (hkp : ∀ b, Q b → w.heap[b]? = wQ.heap[b]?) (hgw : ∀ b, G b → w0.heap.size ≤ b) (h2 : Fl (fun b => ro b ≠ .none ∨ G b) w0 w gt s) (h3 : ∀ b, ro b ≠ .none → w0.heap.size ≤ b ∧ ¬ G b) (k : RxTo w ro gx x' w') : Tx Q wQ G w0 w' gt gx s x' ∧ Kept G w w' := by
  obtain ⟨ro', k1, k2⟩ := k.ex
  have hs := h2.grow.size
  refine ⟨⟨hqg, fun b hb => (k.but.block b (h2.lt b (.inr (hqg b hb))) (fun e => (h3 b e.1).2 (hqg b hb))).trans (hkp b hb), ⟨ro', k1, h2.turnAdd k.but (fun b e => ⟨.inl e.1, (h3 b e.1).1⟩) (fun b e => ?_), fun b hb => ?_⟩, hgw⟩, k.but.mono (fun b _ e hg => (h3 b e.1).2 hg)⟩
  · rcases e with e | e
    · by_cases e2 : ro' b = ro b
      · exact .inl (.inl (by rw [← e2]; exact e))
      · exact .inr ⟨k2 b e2, k1.top.lt e⟩
    · exact .inl (.inr e)
  · by_cases e2 : ro' b = ro b
    · exact h3 b (by rw [← e2]; exact hb)
    · have h5 := k2 b e2
      refine ⟨by omega, fun hg => ?_⟩
      have := h2.lt b (.inr hg)
      omega
theorem Tx.callX {E : Value → World → Prop} (h : Tx Q wQ G w0 w gt gx s x) (c : ∀ ro, Rx w ro gx x → Calls Try.prog f args w fun e w' => ∃ v, e = .returned v ∧ E v w' ∧ RxTo w ro gx x' w') :
    Calls Try.prog f args w fun e w' => ∃ v, e = .returned v ∧ E v w' ∧ Tx Q wQ G w0 w' gt gx s x' ∧ Kept G w w' := by
  obtain ⟨ro, h1, h2, h3⟩ := h.ex
  refine (c _ h1).mono ?_
  rintro e w' ⟨v, rfl, hE, hto⟩
  exact ⟨v, rfl, hE, Tx.toX h.qg h.kp h.gw h2 h3 hto⟩
theorem Tx.rx (h : Tx Q wQ G w0 w gt gx s x) : ∃ ro, Rx w ro gx x := by obtain ⟨ro, h1, -⟩ := h.ex; exact ⟨ro, h1⟩
end
/-- Amid the law's do: the pair and the act in their boxes. -/
structure Dx (Q : Nat → Prop) (wQ : World) (G : Nat → Prop) (w0 w : World) (gt gx gp ga : Nat) (A : FA) (s x : St) : Prop where
  tx : Tx Q wQ G w0 w gt gx s x
  bp : Blk w gp 28 [ptr gt, ptr gx]
  ba : Blk w ga 34 (fac A)
  fp : G gp
  fa : G ga
section
variable {Q G H : Nat → Prop} {wQ w0 w w' : World} {gt gx gp ga : Nat} {A : FA} {s s' x x' : St} {R : Nat → Prop} {f : FuncId} {args : Array Value} {r : Value}
theorem Dx.to (h : Dx Q wQ G w0 w gt gx gp ga A s x) (k : Tx Q wQ G w0 w' gt gx s' x' ∧ Kept G w w') : Dx Q wQ G w0 w' gt gx gp ga A s' x' := ⟨k.1, h.bp.but k.2 (fun e => e h.fp), h.ba.but k.2 (fun e => e h.fa), h.fp, h.fa⟩
theorem Dx.grow (h : Dx Q wQ G w0 w gt gx gp ga A s x) (k : Grow w w') : Dx Q wQ G w0 w' gt gx gp ga A s x := ⟨h.tx.then k, h.bp.but k (fun h => h), h.ba.but k (fun h => h), h.fp, h.fa⟩
theorem Dx.add (h : Dx Q wQ G w0 w gt gx gp ga A s x) (k : Grow w w') (hG : ∀ b, G b → H b) (hH : ∀ b, H b → G b ∨ (w.heap.size ≤ b ∧ b < w'.heap.size)) : Dx Q wQ H w0 w' gt gx gp ga A s x := ⟨h.tx.add k (fun b hb => hG b (h.tx.qg b hb)) hH, h.bp.but k (fun h => h), h.ba.but k (fun h => h), hG _ h.fp, hG _ h.fa⟩
theorem Dx.turn (h : Dx Q wQ G w0 w gt gx gp ga A s x) (k : But R w w') (hR : ∀ b, R b → (G b ∧ ¬ Q b) ∧ b ≠ gp ∧ b ≠ ga) : Dx Q wQ G w0 w' gt gx gp ga A s x := ⟨h.tx.turn k (fun b e => (hR b e).1), h.bp.but k (fun e => (hR _ e).2.1 rfl), h.ba.but k (fun e => (hR _ e).2.2 rfl), h.fp, h.fa⟩
theorem Dx.callX {E : Value → World → Prop} (h : Dx Q wQ G w0 w gt gx gp ga A s x) (c : ∀ ro, Rx w ro gx x → Calls Try.prog f args w fun e w' => ∃ v, e = .returned v ∧ E v w' ∧ RxTo w ro gx x' w') :
    Calls Try.prog f args w fun e w' => ∃ v, e = .returned v ∧ E v w' ∧ Dx Q wQ G w0 w' gt gx gp ga A s x' ∧ Kept G w w' :=
  (h.tx.callX c).mono (fun e w' k => by obtain ⟨v, k1, k2, k3⟩ := k; exact ⟨v, k1, k2, h.to k3, k3.2⟩)
theorem Dx.callT {E : Value → World → Prop} (h : Dx Q wQ G w0 w gt gx gp ga A s x) (c : ∀ F, Fl F w0 w gt s → (∀ b, G b → F b) → Calls Try.prog f args w fun e w' => ∃ v, e = .returned v ∧ E v w' ∧ Fl F w0 w' gt s' ∧ But (Fo F w0) w w') :
    Calls Try.prog f args w fun e w' => ∃ v, e = .returned v ∧ E v w' ∧ Dx Q wQ G w0 w' gt gx gp ga A s' x ∧ Kept G w w' :=
  (h.tx.callT c).mono (fun e w' k => by obtain ⟨v, k1, k2, k3⟩ := k; exact ⟨v, k1, k2, h.to k3, k3.2⟩)
/-- Plain answers. -/
theorem Dx.T (h : Dx Q wQ G w0 w gt gx gp ga A s x) (c : ∀ F, Fl F w0 w gt s → (∀ b, G b → F b) → Calls Try.prog f args w fun e w' => e = .returned r ∧ Fl F w0 w' gt s' ∧ But (Fo F w0) w w') :
    Calls Try.prog f args w fun e w' => e = .returned r ∧ Dx Q wQ G w0 w' gt gx gp ga A s' x ∧ Kept G w w' :=
  (h.callT (E := fun v _ => v = r) (fun F k g => (c F k g).mono (fun e w' k => ⟨r, k.1, rfl, k.2⟩))).mono (fun e w' k => by obtain ⟨v, k1, k2, k3⟩ := k; exact ⟨by rw [k1, k2], k3⟩)
theorem Dx.X (h : Dx Q wQ G w0 w gt gx gp ga A s x) (c : ∀ ro, Rx w ro gx x → Calls Try.prog f args w fun e w' => e = .returned r ∧ RxTo w ro gx x' w') :
    Calls Try.prog f args w fun e w' => e = .returned r ∧ Dx Q wQ G w0 w' gt gx gp ga A s x' ∧ Kept G w w' :=
  (h.callX (E := fun v _ => v = r) (fun ro k => (c ro k).mono (fun e w' k => ⟨r, k.1, rfl, k.2⟩))).mono (fun e w' k => by obtain ⟨v, k1, k2, k3⟩ := k; exact ⟨by rw [k1, k2], k3⟩)
/-- At, amid do. -/
theorem Dx.at (h : Dx Q wQ G w0 w gt gx gp ga A s x) (K : Int) : Calls Try.prog 30 #[ptr gx, .int .i64 K] w fun e w' => ∃ z : Int, e = .returned (.int .i64 z) ∧ w' = w ∧ ((x.has K = true ∧ ∃ (i : Nat) (e0 : FrE), z = (i : Int) ∧ x.fr[i]? = some e0 ∧ e0.1 = K) ∨ (x.has K = false ∧ z = -1)) := by
  obtain ⟨ro, h1⟩ := h.tx.rx
  refine (rxat_any h1 K).mono ?_
  rintro e w' ⟨hw, ⟨i, e0, h2, h3, rfl⟩ | ⟨h2, rfl⟩⟩
  · exact ⟨_, rfl, hw, .inl ⟨St.has_iff.2 ⟨e0, List.mem_of_getElem? h2, h3⟩, i, e0, rfl, h2, h3⟩⟩
  · exact ⟨_, rfl, hw, .inr ⟨h2, rfl⟩⟩
theorem rxput_any {w : World} {ro : Owner} {gx : Nat} {s : St} (h : Rx w ro gx s) {K : Int} (hK : i64 K) {v : Value} {xs : List Nat} {q : Bool} (hv : Bs w v xs) (hl : xs.length ≤ 1000000) : Calls Try.prog 34 #[ptr gx, .int .i64 K, v, .bool q] w fun e w' => e = .returned (.int .i64 (s.putc K)) ∧ RxTo w ro gx (s.put K xs q) w' := by
  cases hh : s.has K with
  | true =>
    have e1 : s.putc K = 0 := by unfold St.putc; rw [hh]; rfl
    rw [e1]
    exact rxput_has h hK hh hv hl
  | false =>
    by_cases hf : s.most ≤ s.fr.length
    · have e1 : s.putc K = 11 := by unfold St.putc; rw [hh, if_neg (by decide), if_pos hf]
      have e2 : s.put K xs q = s := by unfold St.put; rw [hh, if_neg (by decide), if_pos hf]
      rw [e1, e2]
      exact rxput_full h hh hf
    · have e1 : s.putc K = 0 := by unfold St.putc; rw [hh, if_neg (by decide), if_neg hf]
      rw [e1]
      exact rxput_new h hK hh (by omega) hv hl
theorem rxtouch_any {w : World} {ro : Owner} {gx : Nat} {s : St} (h : Rx w ro gx s) {K : Int} (hK : i64 K) {y : Nat} (hn : s.now < 1000000) : Calls Try.prog 37 #[.pointer (some ⟨gx, 4, none⟩), .int .i64 K, .float .f64 y] w fun e w' => e = .returned (.tuple #[]) ∧ RxTo w ro gx (s.touch K y) w' := by
  obtain ⟨vl, vp, vs, vh, FL, h⟩ := h
  refine (frtouch_any h.ht hK hn).mono ?_
  rintro e w' ⟨rfl, hto⟩
  exact ⟨rfl, h.setH hto⟩
/-- T's Get: the bytes are the law's. -/
theorem Dx.get (h : Dx Q wQ G w0 w gt gx gp ga A s x) {K : Int} (hK : i64 K) (hh : s.has K = true) (hn : s.now < 1000000) : Calls Try.prog 18 #[ptr gt, .int .i64 K] w fun e w' => ∃ u, e = .returned (.tuple #[u, .int .i64 0]) ∧ Ow w' w.heap.size u (s.bytes K) ∧ Dx Q wQ (fun b => G b ∨ u.ownBlock = some b) w0 w' gt gx gp ga A (s.touch K oneF) x := by
  obtain ⟨ro, h1, h2, h3⟩ := h.tx.ex
  have hs := h2.grow.size
  refine (fl_get h2 hK hh hn).mono ?_
  rintro e w' ⟨u, rfl, how, hk, hf, hb⟩
  have hkp : Kept G w w' := hb.mono (fun b _ e hg => e.2 (.inr hg))
  refine ⟨u, rfl, how, ⟨⟨fun b hq => .inl (h.tx.qg b hq), fun b hq => (hb.block b (h2.lt b (.inr (h.tx.qg b hq))) (fun e => e.2 (.inr (h.tx.qg b hq)))).trans (h.tx.kp b hq), ⟨ro, h1.but hb (fun b hb e => e.2 (.inl hb)), ?_, fun b hb2 => ⟨(h3 b hb2).1, fun e => ?_⟩⟩, fun b e => ?_⟩, h.bp.but hkp (fun e => e h.fp), h.ba.but hkp (fun e => e h.fa), .inl h.fp, .inl h.fa⟩⟩
  · cases hu : u.ownBlock with
    | none => exact hf.less (fun b e => by
        rcases e with e | e | e
        · exact .inl e
        · exact .inr e
        · cases e)
    | some k => exact (hk k hu).less (fun b e => by
        rcases e with e | e | e
        · exact .inl (.inl e)
        · exact .inl (.inr e)
        · exact .inr (Option.some.inj e).symm)
  · rcases e with e | e
    · exact (h3 b hb2).2 e
    · have := (how.ge b e).1
      have := h1.top.lt hb2
      omega
  · rcases e with e | e
    · exact h.tx.gw b e
    · have := (how.ge b e).1
      omega
theorem clean_not {s : St} {K : Int} (h : s.has K = false) : s.clean K = s := by
  unfold St.clean
  have : s.fr.map (fun e : FrE => if e.1 == K then (e.1, e.2.1, false) else e) = s.fr := by
    rw [List.map_congr_left (g := id) (fun e he => by
      have : (e.1 == K) = false := by simpa using St.has_not.1 h e he
      simp [this]), List.map_id]
  rw [this]
theorem clean_set {l : List FrE} (hn : (l.map (·.1)).Nodup) {i : Nat} {e : FrE} (hi : l[i]? = some e) : l.map (fun x : FrE => if x.1 == e.1 then (x.1, x.2.1, false) else x) = l.set i (e.1, e.2.1, false) := by
  have hl : i < l.length := (List.getElem?_eq_some_iff.1 hi).1
  apply List.ext_getElem?
  intro j
  rw [List.getElem?_map, List.getElem?_set]
  by_cases hj : i = j
  · subst hj
    rw [if_pos rfl, if_pos hl, hi]
    simp
  · rw [if_neg hj]
    cases hzj : l[j]? with
    | none => rfl
    | some y =>
      have hne : y.1 ≠ e.1 := fun e2 => hj (by
        refine (List.getElem?_inj (l := l.map (·.1)) (by rw [List.length_map]; exact hl) hn).1 ?_
        rw [List.getElem?_map, List.getElem?_map, hi, hzj]
        simp [e2])
      simp [hne]
/-- The law cleans the reference's frame. -/
theorem Dx.clean (h : Dx Q wQ G w0 w gt gx gp ga A s x) {i : Nat} {e0 : FrE} (hi : x.fr[i]? = some e0) : ∃ g n cap, w.cell? ⟨gx, 1, none⟩ = some (.slice (some ⟨g, 0, none⟩) n cap) ∧ i < n ∧ (∃ u, w.cell? ⟨g, i * 3 + 2, none⟩ = some u) ∧ w.frozen? ⟨g, i * 3 + 2, none⟩ = false ∧ Dx Q wQ G w0 (w.setCell ⟨g, i * 3 + 2, none⟩ (.bool false)) gt gx gp ga A s (x.clean e0.1) := by
  obtain ⟨ro, ⟨vl, vp, vs, vh, FL, h1⟩, h2, h3⟩ := h.tx.ex
  obtain ⟨⟨e1, qv⟩, hq⟩ : ∃ z, FL[i]? = some z := ⟨_, List.getElem?_eq_getElem (by rw [h1.lenL]; exact (List.getElem?_eq_some_iff.1 hi).1)⟩
  have he : e1 = e0 := by
    rw [← h1.fl, List.getElem?_map, hq] at hi
    simpa using hi
  subst he
  obtain ⟨g, cp, hvl, hgt, -⟩ := h1.rl.cellAt (fun e _ => fxc_len e) hq
  subst hvl
  obtain ⟨hu, hf⟩ := h1.rl.spot (fun e _ => fxc_len e) hq (c := 2) (by decide)
  refine ⟨g, FL.length, cp, h1.ht.blk.cell 1, (List.getElem?_eq_some_iff.1 hq).1, hu, hf, ?_⟩
  have hcl := h1.ok.clean e1.1
  have hset := clean_set h1.ok.nd hi
  have hl := h1.lay (y := ((e1.1, e1.2.1, false), qv)) (u := .bool false) (c := 2) (fr := x.fr.map (fun z : FrE => if z.1 == e1.1 then (z.1, z.2.1, false) else z)) hq (by decide) rfl (h1.bt (e1, qv) (List.mem_of_getElem? hq)) hset.symm hcl
  have hb : But (fun b => ro b ≠ .none ∧ ro b ≠ tByt) w (w.setCell ⟨g, i * 3 + 2, none⟩ (.bool false)) := (But.set1 w g (i * 3 + 2) (.bool false)).mono (fun b _ e => by rw [e, show ro g = .sto from hgt]; exact ⟨by decide, by decide⟩)
  exact h.to (Tx.toX h.tx.qg h.tx.kp h.tx.gw h2 h3 (hl.to (Fresh.refl _ _) hb))
end
end Go.Proofs.Ytmlklmhochihbaa
/- The law's do of frames: kinds 0, 1. -/
namespace Go.Proofs.Ytmlklmhochihbaa
open Go.RowKit

def FDoX (Q : Nat → Prop) (wQ w0 : World) (gt gx n : Nat) (e : Ending) (w' : World) : Prop := e = .returned (.bool true) ∧ ∃ s', Tx Q wQ Q w0 w' gt gx s' s' ∧ s'.now ≤ n + 1 ∧ s'.pins.length ≤ n + 1
theorem Tx.boxes {Q : Nat → Prop} {wQ w0 w : World} {gt gx : Nat} {s x : St} (h : Tx Q wQ Q w0 w gt gx s x) (A : FA) : ∃ gp ga wb, gp = w.heap.size ∧ ga = w.heap.size + 1 ∧ wb = (w.alloc (.cells #[ptr gt, ptr gx] 28)).alloc (.cells (fac A).toArray 34) ∧ Dx Q wQ (fun b => Q b ∨ b = gp ∨ b = ga) w0 wb gt gx gp ga A s x := by
  refine ⟨_, _, _, rfl, rfl, rfl, ?_⟩
  have g1 : Grow w (w.alloc (.cells #[ptr gt, ptr gx] 28)) := (But.refl _ w).alloc _
  have b1 : Blk (w.alloc (.cells #[ptr gt, ptr gx] 28)) w.heap.size 28 [ptr gt, ptr gx] := Blk.new (L := [ptr gt, ptr gx]) rfl
  have s1 : (w.alloc (.cells #[ptr gt, ptr gx] 28)).heap.size = w.heap.size + 1 := by simp
  generalize w.alloc (.cells #[ptr gt, ptr gx] 28) = wa at *
  have g2 : Grow wa (wa.alloc (.cells (fac A).toArray 34)) := (But.refl _ wa).alloc _
  have b2 : Blk (wa.alloc (.cells (fac A).toArray 34)) (w.heap.size + 1) 34 (fac A) := Blk.new s1
  have l1 := b1.lt
  have l2 := b2.lt
  have l3 := g2.size
  have l4 := g1.size
  exact ⟨h.add (g1.trans g2) (fun b hb => .inl hb) (fun b e => by rcases e with e | e | e <;> first | exact .inl e | exact .inr (by omega)), b1.but g2 (fun h => h), b2, .inr (.inl rfl), .inr (.inr rfl)⟩
section
variable {s : St} {n : Nat}
theorem res_le (h : s.now ≤ n ∧ s.pins.length ≤ n) (t k : Int) : (s.res t k).now ≤ n + 1 ∧ (s.res t k).pins.length ≤ n + 1 := by
  unfold St.res
  split
  · exact ⟨by show s.now ≤ _; omega, by show s.pins.length ≤ _; omega⟩
  · omega
theorem drop_le (h : s.now ≤ n ∧ s.pins.length ≤ n) (k : Int) : (s.drop k).now ≤ n + 1 ∧ (s.drop k).pins.length ≤ n + 1 := by
  unfold St.drop
  split
  · exact ⟨by show s.now ≤ _; omega, by show s.pins.length ≤ _; omega⟩
  · omega
theorem free_le (h : s.now ≤ n ∧ s.pins.length ≤ n) (t : Int) : (s.free t).now ≤ n + 1 ∧ (s.free t).pins.length ≤ n + 1 :=
  ⟨by show s.now ≤ _; omega, by show (s.pins.filter _).length ≤ _; have := List.length_filter_le (fun p : Int × Int => !(p.1 == t)) s.pins; omega⟩
theorem put_le (h : s.now ≤ n ∧ s.pins.length ≤ n) (k : Int) (b : List Nat) (q : Bool) : (s.put k b q).now ≤ n + 1 ∧ (s.put k b q).pins.length ≤ n + 1 := by
  unfold St.put
  split
  · exact ⟨by show s.now ≤ _; omega, by show s.pins.length ≤ _; omega⟩
  · split
    · omega
    · exact ⟨by show s.now ≤ _; omega, by show s.pins.length ≤ _; omega⟩
theorem touch_le (h : s.now ≤ n ∧ s.pins.length ≤ n) (k : Int) (y : Nat) : (s.touch k y).now ≤ n + 1 ∧ (s.touch k y).pins.length ≤ n + 1 := ⟨by show s.now + 1 ≤ _; omega, by show s.pins.length ≤ _; omega⟩
theorem clean_le (h : s.now ≤ n ∧ s.pins.length ≤ n) (k : Int) : (s.clean k).now ≤ n + 1 ∧ (s.clean k).pins.length ≤ n + 1 := ⟨by show s.now ≤ _; omega, by show s.pins.length ≤ _; omega⟩
theorem same_le (h : s.now ≤ n ∧ s.pins.length ≤ n) : s.now ≤ n + 1 ∧ s.pins.length ≤ n + 1 := by omega
theorem pin_le (h : s.now ≤ n ∧ s.pins.length ≤ n) (t k : Int) : (s.pin t k).now ≤ n + 1 ∧ (s.pin t k).pins.length ≤ n + 1 := by
  unfold St.pin
  split
  · exact ⟨by show s.now ≤ _; omega, by show (s.pins ++ _).length ≤ _; rw [List.length_append, List.length_singleton]; omega⟩
  · omega
end
theorem Dx.getNot {Q G : Nat → Prop} {wQ w0 w : World} {gt gx gp ga : Nat} {A : FA} {s x : St} (h : Dx Q wQ G w0 w gt gx gp ga A s x) {K : Int} (hK : i64 K) (hh : s.has K = false) : Calls Try.prog 18 #[ptr gt, .int .i64 K] w fun e w' => e = .returned (.tuple #[.slice none 0 0, .int .i64 5]) ∧ w' = w := by
  obtain ⟨ro, h1, h2, h3⟩ := h.tx.ex
  exact fl_getNot h2 hK hh
theorem Dx.xgetNot {Q G : Nat → Prop} {wQ w0 w : World} {gt gx gp ga : Nat} {A : FA} {s x : St} (h : Dx Q wQ G w0 w gt gx gp ga A s x) {K : Int} (hh : x.has K = false) : Calls Try.prog 35 #[ptr gx, .int .i64 K] w fun e w' => e = .returned (.tuple #[.slice none 0 0, .int .i64 5]) ∧ w' = w := by
  obtain ⟨ro, h1, h2, h3⟩ := h.tx.ex
  exact rxget_not h1 hh
set_option maxRecDepth 100000 in
set_option maxHeartbeats 8000000 in
theorem fdo_0 {w0 w : World} {gt gx : Nat} {s : St} {A : FA} {n : Nat} {Q : Nat → Prop} {wQ : World} (h : Tx Q wQ Q w0 w gt gx s s) (hok : A.ok w0) (hsm : A.bs.length ≤ 1000) (hb : s.now ≤ n ∧ s.pins.length ≤ n) (hn : n ≤ 50000) (hq : A.kind % 9 = 0) :
    Calls Try.prog 11 #[.agg #[ptr gt, ptr gx], .agg (fac A).toArray] w (FDoX Q wQ w0 gt gx n) := by
  obtain ⟨gp, ga, wb, hgp, hga, hwb, hdx⟩ := h.boxes A
  obtain ⟨kd, tk, ky, v, bs, wt, y⟩ := A
  obtain ⟨htk, hky⟩ : i64 tk ∧ i64 ky := ⟨hok.task, hok.key⟩
  obtain ⟨va, vn, vc, rfl⟩ : ∃ a n c, v = .slice a n c := hok.bs.sl
  have HBS : Hid (Bs w0 (.slice va vn vc) bs) := hok.bs
  have HSM : Hid (bs.length ≤ 1000) := hsm
  have HB := Hid.mk' hb
  have HN := Hid.mk' hn
  have HDX := Hid.mk' hdx
  have HQL : Hid (∀ b, Q b → b < wb.heap.size) := fun b hb => hdx.tx.lt b (.inl hb)
  have HAT := Hid.mk' (hdx.at ky)
  have hpk := pick_any kd 9 wb (by decide) (by decide)
  have hq' : kd % 9 = 0 := hq
  rw [hq'] at hpk
  have HPK := Hid.mk' hpk
  have p0 : wb.cell? ⟨gp, 0, none⟩ = some (ptr gt) := hdx.bp.cell 0
  have p1 : wb.cell? ⟨gp, 1, none⟩ = some (ptr gx) := hdx.bp.cell 1
  have a0 : wb.cell? ⟨ga, 0, none⟩ = some (.int .i64 kd) := hdx.ba.cell 0
  have a1 : wb.cell? ⟨ga, 1, none⟩ = some (.int .i64 tk) := hdx.ba.cell 1
  have a2 : wb.cell? ⟨ga, 2, none⟩ = some (.int .i64 ky) := hdx.ba.cell 2
  have a3 : wb.cell? ⟨ga, 3, none⟩ = some (.slice va vn vc) := hdx.ba.cell 3
  have a4 : wb.cell? ⟨ga, 4, none⟩ = some (.bool wt) := hdx.ba.cell 4
  have a5 : wb.cell? ⟨ga, 5, none⟩ = some (.float .f64 y) := hdx.ba.cell 5
  have HTK := Hid.mk' htk
  have HKY := Hid.mk' hky
  have HGP := Hid.mk' hgp
  have HGA := Hid.mk' hga
  have HWB : Hid (wb = (w.alloc (.cells #[ptr gt, ptr gx] 28)).alloc (.cells #[.int .i64 kd, .int .i64 tk, .int .i64 ky, .slice va vn vc, .bool wt, .float .f64 y] 34)) := hwb
  clear h hok hsm hb hn hq hq' hpk hdx htk hky hgp hga hwb
  show Calls Try.prog 11 #[.agg #[ptr gt, ptr gx], .agg #[.int .i64 kd, .int .i64 tk, .int .i64 ky, .slice va vn vc, .bool wt, .float .f64 y]] w _
  go_enter Try.func11, Try.ntmps11
  go_upto_region 1 with fail
  rw [← HWB.out, ← HGA.out, ← HGP.out]
  clear HWB
  go_wp2_with fail
  refine Calls.mono HAT.out ?_
  rintro e w' ⟨z, rfl, hw, hz⟩
  have h2 := hw.symm
  subst h2
  have HZ := Hid.mk' hz
  clear hw hz HAT
  go_wp2_with fail
  refine Calls.mono HPK.out ?_
  rintro e w' ⟨rfl, hw⟩
  have h2 := hw.symm
  subst h2
  clear hw HPK
  clear p0 p1 a0 a1 a2 a3 a4 a5
  obtain ⟨rc, hrc⟩ : ∃ rc, rc = s.resc tk ky := ⟨_, rfl⟩
  have HRC := Hid.mk' hrc
  clear hrc
  go_upto_region 7 with fail
  refine region_chain [([0, 1, 2, 3, 4, 5, 7, 8, 9, 10, 11, 12], 6), ([], 13)] [14, 15] (fun w2 => Blk w2 gp 28 [ptr gt, ptr gx] ∧ Blk w2 ga 34 [.int .i64 kd, .int .i64 tk, .int .i64 ky, .slice va vn vc, .bool wt, .float .f64 y]) (fun w2 => Dx Q wQ (fun b => Q b ∨ b = gp ∨ b = ga) w0 w2 gt gx gp ga ⟨kd, tk, ky, .slice va vn vc, bs, wt, y⟩ s s) (by kernel_rfl) (by kernel_rfl) (fun _ _ h k => h.grow k) (fun _ h => ⟨h.bp, h.ba⟩) (HDX.out.grow ((But.refl _ wb).drew)) ?_
  intro ι hne X hX
  have d0 : ∀ x, (X x).cell? ⟨gp, 0, none⟩ = some (ptr gt) := fun x => (hX x).1.cell 0
  have d1 : ∀ x, (X x).cell? ⟨gp, 1, none⟩ = some (ptr gx) := fun x => (hX x).1.cell 1
  have d2 : ∀ x, (X x).cell? ⟨ga, 1, none⟩ = some (.int .i64 tk) := fun x => (hX x).2.cell 1
  have d3 : ∀ x, (X x).cell? ⟨ga, 2, none⟩ = some (.int .i64 ky) := fun x => (hX x).2.cell 2
  have d4 : ∀ x, (X x).cell? ⟨ga, 5, none⟩ = some (.float .f64 y) := fun x => (hX x).2.cell 5
  iterate 12 (refine still_step rfl (fun K hK => ?_); go_simp; refine hK _ ?_; clear hK K)
  refine still_nil ?_
  clear hX hne d0 d1 d2 d3 d4 X ι
  refine turn_call rfl rfl (fun v w2 => v = .int .i64 rc ∧ Dx Q wQ (fun b => Q b ∨ b = gp ∨ b = ga) w0 w2 gt gx gp ga ⟨kd, tk, ky, .slice va vn vc, bs, wt, y⟩ (s.res tk ky) s) (fun _ => (fun w2 => Blk w2 gp 28 [ptr gt, ptr gx] ∧ Blk w2 ga 34 [.int .i64 kd, .int .i64 tk, .int .i64 ky, .slice va vn vc, .bool wt, .float .f64 y])) (fun _ _ _ h k => ⟨h.1, h.2.grow k⟩) (fun _ _ h => ⟨h.2.bp, h.2.ba⟩) (.inr (fun _ _ h => h)) 20 #[ptr gt, .int .i64 tk, .int .i64 ky] (fun _ => by kernel_rfl) ?_ ?_
  · intro w2 k2
    rw [HRC.out]
    exact (k2.T (fun F hf _ => fl_reserve hf HTK.out)).mono (fun e w' k => ⟨_, k.1, rfl, k.2.1⟩)
  rintro v ⟨wq, rfl, -⟩ Y hY
  go_simp
  refine hY _ ?_
  clear hY Y
  intro ι hne X hX
  refine still_nil ?_
  clear hX hne X ι
  refine turn_call rfl rfl (fun v w2 => v = .int .i64 rc ∧ Dx Q wQ (fun b => Q b ∨ b = gp ∨ b = ga) w0 w2 gt gx gp ga ⟨kd, tk, ky, .slice va vn vc, bs, wt, y⟩ (s.res tk ky) (s.res tk ky)) (fun _ => (fun w2 => Blk w2 gp 28 [ptr gt, ptr gx] ∧ Blk w2 ga 34 [.int .i64 kd, .int .i64 tk, .int .i64 ky, .slice va vn vc, .bool wt, .float .f64 y])) (fun _ _ _ h k => ⟨h.1, h.2.grow k⟩) (fun _ _ h => ⟨h.2.bp, h.2.ba⟩) (.inr (fun _ _ h => h)) 31 #[ptr gx, .int .i64 tk, .int .i64 ky] (fun _ => by kernel_rfl) ?_ ?_
  · rintro w2 ⟨-, k2⟩
    rw [HRC.out]
    exact (k2.X (fun ro hr => rxreserve_any hr HTK.out)).mono (fun e w' k => ⟨_, k.1, rfl, k.2.1⟩)
  rintro v ⟨wq, rfl, -⟩ Y hY
  go_simp
  refine hY _ ?_
  clear hY Y
  intro ι hne X hX
  iterate 2 (refine still_step rfl (fun K hK => ?_); go_simp; refine hK _ ?_; clear hK K)
  refine still_nil ?_
  clear hX hne X ι
  rintro w3 ⟨-, hf3⟩
  have HF := Hid.mk' hf3
  clear hf3
  go_wp2
  go_ret
  exact ⟨rfl, (s.res tk ky), HF.out.tx.less (fun _ h => h) (fun _ h => .inl h), res_le HB.out tk ky⟩
set_option maxRecDepth 100000 in
set_option maxHeartbeats 8000000 in
theorem fdo_1 {w0 w : World} {gt gx : Nat} {s : St} {A : FA} {n : Nat} {Q : Nat → Prop} {wQ : World} (h : Tx Q wQ Q w0 w gt gx s s) (hok : A.ok w0) (hsm : A.bs.length ≤ 1000) (hb : s.now ≤ n ∧ s.pins.length ≤ n) (hn : n ≤ 50000) (hq : A.kind % 9 = 1) :
    Calls Try.prog 11 #[.agg #[ptr gt, ptr gx], .agg (fac A).toArray] w (FDoX Q wQ w0 gt gx n) := by
  obtain ⟨gp, ga, wb, hgp, hga, hwb, hdx⟩ := h.boxes A
  obtain ⟨kd, tk, ky, v, bs, wt, y⟩ := A
  obtain ⟨htk, hky⟩ : i64 tk ∧ i64 ky := ⟨hok.task, hok.key⟩
  obtain ⟨va, vn, vc, rfl⟩ : ∃ a n c, v = .slice a n c := hok.bs.sl
  have HBS : Hid (Bs w0 (.slice va vn vc) bs) := hok.bs
  have HSM : Hid (bs.length ≤ 1000) := hsm
  have HB := Hid.mk' hb
  have HN := Hid.mk' hn
  have HDX := Hid.mk' hdx
  have HQL : Hid (∀ b, Q b → b < wb.heap.size) := fun b hb => hdx.tx.lt b (.inl hb)
  have HAT := Hid.mk' (hdx.at ky)
  have hpk := pick_any kd 9 wb (by decide) (by decide)
  have hq' : kd % 9 = 1 := hq
  rw [hq'] at hpk
  have HPK := Hid.mk' hpk
  have p0 : wb.cell? ⟨gp, 0, none⟩ = some (ptr gt) := hdx.bp.cell 0
  have p1 : wb.cell? ⟨gp, 1, none⟩ = some (ptr gx) := hdx.bp.cell 1
  have a0 : wb.cell? ⟨ga, 0, none⟩ = some (.int .i64 kd) := hdx.ba.cell 0
  have a1 : wb.cell? ⟨ga, 1, none⟩ = some (.int .i64 tk) := hdx.ba.cell 1
  have a2 : wb.cell? ⟨ga, 2, none⟩ = some (.int .i64 ky) := hdx.ba.cell 2
  have a3 : wb.cell? ⟨ga, 3, none⟩ = some (.slice va vn vc) := hdx.ba.cell 3
  have a4 : wb.cell? ⟨ga, 4, none⟩ = some (.bool wt) := hdx.ba.cell 4
  have a5 : wb.cell? ⟨ga, 5, none⟩ = some (.float .f64 y) := hdx.ba.cell 5
  have HTK := Hid.mk' htk
  have HKY := Hid.mk' hky
  have HGP := Hid.mk' hgp
  have HGA := Hid.mk' hga
  have HWB : Hid (wb = (w.alloc (.cells #[ptr gt, ptr gx] 28)).alloc (.cells #[.int .i64 kd, .int .i64 tk, .int .i64 ky, .slice va vn vc, .bool wt, .float .f64 y] 34)) := hwb
  clear h hok hsm hb hn hq hq' hpk hdx htk hky hgp hga hwb
  show Calls Try.prog 11 #[.agg #[ptr gt, ptr gx], .agg #[.int .i64 kd, .int .i64 tk, .int .i64 ky, .slice va vn vc, .bool wt, .float .f64 y]] w _
  go_enter Try.func11, Try.ntmps11
  go_upto_region 1 with fail
  rw [← HWB.out, ← HGA.out, ← HGP.out]
  clear HWB
  go_wp2_with fail
  refine Calls.mono HAT.out ?_
  rintro e w' ⟨z, rfl, hw, hz⟩
  have h2 := hw.symm
  subst h2
  have HZ := Hid.mk' hz
  clear hw hz HAT
  go_wp2_with fail
  refine Calls.mono HPK.out ?_
  rintro e w' ⟨rfl, hw⟩
  have h2 := hw.symm
  subst h2
  clear hw HPK
  go_wp2_with fail
  refine Calls.mono (HDX.out.T (fun F hf _ => fl_free hf HTK.out)) ?_
  rintro e w1 ⟨rfl, h1, -⟩
  have HD1 := Hid.mk' h1
  have p0 : w1.cell? ⟨gp, 0, none⟩ = some (ptr gt) := h1.bp.cell 0
  have p1 : w1.cell? ⟨gp, 1, none⟩ = some (ptr gx) := h1.bp.cell 1
  have a1 : w1.cell? ⟨ga, 1, none⟩ = some (.int .i64 tk) := h1.ba.cell 1
  clear h1
  go_wp2_with fail
  refine Calls.mono (HD1.out.X (fun ro hr => rxfree_any hr)) ?_
  rintro e w2 ⟨rfl, h2, -⟩
  have HF := Hid.mk' h2
  clear h2
  go_wp2
  go_ret
  exact ⟨rfl, s.free tk, HF.out.tx.less (fun _ h => h) (fun _ h => .inl h), free_le HB.out tk⟩
end Go.Proofs.Ytmlklmhochihbaa
/- The law's do of frames: kinds 6. -/
namespace Go.Proofs.Ytmlklmhochihbaa
open Go.RowKit

set_option maxRecDepth 100000 in
set_option maxHeartbeats 8000000 in
theorem fdo_6 {w0 w : World} {gt gx : Nat} {s : St} {A : FA} {n : Nat} {Q : Nat → Prop} {wQ : World} (h : Tx Q wQ Q w0 w gt gx s s) (hok : A.ok w0) (hsm : A.bs.length ≤ 1000) (hb : s.now ≤ n ∧ s.pins.length ≤ n) (hn : n ≤ 50000) (hq : A.kind % 9 = 6) :
    Calls Try.prog 11 #[.agg #[ptr gt, ptr gx], .agg (fac A).toArray] w (FDoX Q wQ w0 gt gx n) := by
  obtain ⟨gp, ga, wb, hgp, hga, hwb, hdx⟩ := h.boxes A
  obtain ⟨kd, tk, ky, v, bs, wt, y⟩ := A
  obtain ⟨htk, hky⟩ : i64 tk ∧ i64 ky := ⟨hok.task, hok.key⟩
  obtain ⟨va, vn, vc, rfl⟩ : ∃ a n c, v = .slice a n c := hok.bs.sl
  have HBS : Hid (Bs w0 (.slice va vn vc) bs) := hok.bs
  have HSM : Hid (bs.length ≤ 1000) := hsm
  have HB := Hid.mk' hb
  have HN := Hid.mk' hn
  have HDX := Hid.mk' hdx
  have HQL : Hid (∀ b, Q b → b < wb.heap.size) := fun b hb => hdx.tx.lt b (.inl hb)
  have HAT := Hid.mk' (hdx.at ky)
  have hpk := pick_any kd 9 wb (by decide) (by decide)
  have hq' : kd % 9 = 6 := hq
  rw [hq'] at hpk
  have HPK := Hid.mk' hpk
  have p0 : wb.cell? ⟨gp, 0, none⟩ = some (ptr gt) := hdx.bp.cell 0
  have p1 : wb.cell? ⟨gp, 1, none⟩ = some (ptr gx) := hdx.bp.cell 1
  have a0 : wb.cell? ⟨ga, 0, none⟩ = some (.int .i64 kd) := hdx.ba.cell 0
  have a1 : wb.cell? ⟨ga, 1, none⟩ = some (.int .i64 tk) := hdx.ba.cell 1
  have a2 : wb.cell? ⟨ga, 2, none⟩ = some (.int .i64 ky) := hdx.ba.cell 2
  have a3 : wb.cell? ⟨ga, 3, none⟩ = some (.slice va vn vc) := hdx.ba.cell 3
  have a4 : wb.cell? ⟨ga, 4, none⟩ = some (.bool wt) := hdx.ba.cell 4
  have a5 : wb.cell? ⟨ga, 5, none⟩ = some (.float .f64 y) := hdx.ba.cell 5
  have HTK := Hid.mk' htk
  have HKY := Hid.mk' hky
  have HGP := Hid.mk' hgp
  have HGA := Hid.mk' hga
  have HWB : Hid (wb = (w.alloc (.cells #[ptr gt, ptr gx] 28)).alloc (.cells #[.int .i64 kd, .int .i64 tk, .int .i64 ky, .slice va vn vc, .bool wt, .float .f64 y] 34)) := hwb
  clear h hok hsm hb hn hq hq' hpk hdx htk hky hgp hga hwb
  show Calls Try.prog 11 #[.agg #[ptr gt, ptr gx], .agg #[.int .i64 kd, .int .i64 tk, .int .i64 ky, .slice va vn vc, .bool wt, .float .f64 y]] w _
  go_enter Try.func11, Try.ntmps11
  go_upto_region 1 with fail
  rw [← HWB.out, ← HGA.out, ← HGP.out]
  clear HWB
  go_wp2_with fail
  refine Calls.mono HAT.out ?_
  rintro e w' ⟨z, rfl, hw, hz⟩
  have h2 := hw.symm
  subst h2
  have HZ := Hid.mk' hz
  clear hw hz HAT
  go_wp2_with fail
  refine Calls.mono HPK.out ?_
  rintro e w' ⟨rfl, hw⟩
  have h2 := hw.symm
  subst h2
  clear hw HPK
  clear p0 p1 a0 a1 a2 a3 a4 a5
  obtain ⟨rc, hrc⟩ : ∃ rc, rc = s.dropc ky := ⟨_, rfl⟩
  have HRC := Hid.mk' hrc
  clear hrc
  go_upto_region 35 with fail
  refine region_chain [([0, 1, 2, 3, 5, 6, 7, 8], 4), ([], 9)] [10, 11] (fun w2 => Blk w2 gp 28 [ptr gt, ptr gx] ∧ Blk w2 ga 34 [.int .i64 kd, .int .i64 tk, .int .i64 ky, .slice va vn vc, .bool wt, .float .f64 y]) (fun w2 => Dx Q wQ (fun b => Q b ∨ b = gp ∨ b = ga) w0 w2 gt gx gp ga ⟨kd, tk, ky, .slice va vn vc, bs, wt, y⟩ s s) (by kernel_rfl) (by kernel_rfl) (fun _ _ h k => h.grow k) (fun _ h => ⟨h.bp, h.ba⟩) (HDX.out.grow ((But.refl _ wb).drew)) ?_
  intro ι hne X hX
  have d0 : ∀ x, (X x).cell? ⟨gp, 0, none⟩ = some (ptr gt) := fun x => (hX x).1.cell 0
  have d1 : ∀ x, (X x).cell? ⟨gp, 1, none⟩ = some (ptr gx) := fun x => (hX x).1.cell 1
  have d2 : ∀ x, (X x).cell? ⟨ga, 1, none⟩ = some (.int .i64 tk) := fun x => (hX x).2.cell 1
  have d3 : ∀ x, (X x).cell? ⟨ga, 2, none⟩ = some (.int .i64 ky) := fun x => (hX x).2.cell 2
  have d4 : ∀ x, (X x).cell? ⟨ga, 5, none⟩ = some (.float .f64 y) := fun x => (hX x).2.cell 5
  iterate 8 (refine still_step rfl (fun K hK => ?_); go_simp; refine hK _ ?_; clear hK K)
  refine still_nil ?_
  clear hX hne d0 d1 d2 d3 d4 X ι
  refine turn_call rfl rfl (fun v w2 => v = .int .i64 rc ∧ Dx Q wQ (fun b => Q b ∨ b = gp ∨ b = ga) w0 w2 gt gx gp ga ⟨kd, tk, ky, .slice va vn vc, bs, wt, y⟩ (s.drop ky) s) (fun _ => (fun w2 => Blk w2 gp 28 [ptr gt, ptr gx] ∧ Blk w2 ga 34 [.int .i64 kd, .int .i64 tk, .int .i64 ky, .slice va vn vc, .bool wt, .float .f64 y])) (fun _ _ _ h k => ⟨h.1, h.2.grow k⟩) (fun _ _ h => ⟨h.2.bp, h.2.ba⟩) (.inr (fun _ _ h => h)) 15 #[ptr gt, .int .i64 ky] (fun _ => by kernel_rfl) ?_ ?_
  · intro w2 k2
    rw [HRC.out]
    exact (k2.T (fun F hf _ => fl_drop hf HKY.out)).mono (fun e w' k => ⟨_, k.1, rfl, k.2.1⟩)
  rintro v ⟨wq, rfl, -⟩ Y hY
  go_simp
  refine hY _ ?_
  clear hY Y
  intro ι hne X hX
  refine still_nil ?_
  clear hX hne X ι
  refine turn_call rfl rfl (fun v w2 => v = .int .i64 rc ∧ Dx Q wQ (fun b => Q b ∨ b = gp ∨ b = ga) w0 w2 gt gx gp ga ⟨kd, tk, ky, .slice va vn vc, bs, wt, y⟩ (s.drop ky) (s.drop ky)) (fun _ => (fun w2 => Blk w2 gp 28 [ptr gt, ptr gx] ∧ Blk w2 ga 34 [.int .i64 kd, .int .i64 tk, .int .i64 ky, .slice va vn vc, .bool wt, .float .f64 y])) (fun _ _ _ h k => ⟨h.1, h.2.grow k⟩) (fun _ _ h => ⟨h.2.bp, h.2.ba⟩) (.inr (fun _ _ h => h)) 36 #[ptr gx, .int .i64 ky] (fun _ => by kernel_rfl) ?_ ?_
  · rintro w2 ⟨-, k2⟩
    rw [HRC.out]
    exact (k2.X (fun ro hr => rxdrop_any hr)).mono (fun e w' k => ⟨_, k.1, rfl, k.2.1⟩)
  rintro v ⟨wq, rfl, -⟩ Y hY
  go_simp
  refine hY _ ?_
  clear hY Y
  intro ι hne X hX
  iterate 2 (refine still_step rfl (fun K hK => ?_); go_simp; refine hK _ ?_; clear hK K)
  refine still_nil ?_
  clear hX hne X ι
  rintro w3 ⟨-, hf3⟩
  have HF := Hid.mk' hf3
  clear hf3
  go_wp2
  go_ret
  exact ⟨rfl, (s.drop ky), HF.out.tx.less (fun _ h => h) (fun _ h => .inl h), drop_le HB.out ky⟩
end Go.Proofs.Ytmlklmhochihbaa
/- The law's do of frames: kinds 2, 3. -/
namespace Go.Proofs.Ytmlklmhochihbaa
open Go.RowKit

set_option maxRecDepth 100000 in
set_option maxHeartbeats 8000000 in
theorem fdo_2 {w0 w : World} {gt gx : Nat} {s : St} {A : FA} {n : Nat} {Q : Nat → Prop} {wQ : World} (h : Tx Q wQ Q w0 w gt gx s s) (hok : A.ok w0) (hsm : A.bs.length ≤ 1000) (hb : s.now ≤ n ∧ s.pins.length ≤ n) (hn : n ≤ 50000) (hq : A.kind % 9 = 2) :
    Calls Try.prog 11 #[.agg #[ptr gt, ptr gx], .agg (fac A).toArray] w (FDoX Q wQ w0 gt gx n) := by
  obtain ⟨gp, ga, wb, hgp, hga, hwb, hdx⟩ := h.boxes A
  obtain ⟨kd, tk, ky, v, bs, wt, y⟩ := A
  obtain ⟨htk, hky⟩ : i64 tk ∧ i64 ky := ⟨hok.task, hok.key⟩
  obtain ⟨va, vn, vc, rfl⟩ : ∃ a n c, v = .slice a n c := hok.bs.sl
  have HBS : Hid (Bs w0 (.slice va vn vc) bs) := hok.bs
  have HSM : Hid (bs.length ≤ 1000) := hsm
  have HB := Hid.mk' hb
  have HN := Hid.mk' hn
  have HDX := Hid.mk' hdx
  have HQL : Hid (∀ b, Q b → b < wb.heap.size) := fun b hb => hdx.tx.lt b (.inl hb)
  have HAT := Hid.mk' (hdx.at ky)
  have hpk := pick_any kd 9 wb (by decide) (by decide)
  have hq' : kd % 9 = 2 := hq
  rw [hq'] at hpk
  have HPK := Hid.mk' hpk
  have p0 : wb.cell? ⟨gp, 0, none⟩ = some (ptr gt) := hdx.bp.cell 0
  have p1 : wb.cell? ⟨gp, 1, none⟩ = some (ptr gx) := hdx.bp.cell 1
  have a0 : wb.cell? ⟨ga, 0, none⟩ = some (.int .i64 kd) := hdx.ba.cell 0
  have a1 : wb.cell? ⟨ga, 1, none⟩ = some (.int .i64 tk) := hdx.ba.cell 1
  have a2 : wb.cell? ⟨ga, 2, none⟩ = some (.int .i64 ky) := hdx.ba.cell 2
  have a3 : wb.cell? ⟨ga, 3, none⟩ = some (.slice va vn vc) := hdx.ba.cell 3
  have a4 : wb.cell? ⟨ga, 4, none⟩ = some (.bool wt) := hdx.ba.cell 4
  have a5 : wb.cell? ⟨ga, 5, none⟩ = some (.float .f64 y) := hdx.ba.cell 5
  have HTK := Hid.mk' htk
  have HKY := Hid.mk' hky
  have HGP := Hid.mk' hgp
  have HGA := Hid.mk' hga
  have HWB : Hid (wb = (w.alloc (.cells #[ptr gt, ptr gx] 28)).alloc (.cells #[.int .i64 kd, .int .i64 tk, .int .i64 ky, .slice va vn vc, .bool wt, .float .f64 y] 34)) := hwb
  clear h hok hsm hb hn hq hq' hpk hdx htk hky hgp hga hwb
  show Calls Try.prog 11 #[.agg #[ptr gt, ptr gx], .agg #[.int .i64 kd, .int .i64 tk, .int .i64 ky, .slice va vn vc, .bool wt, .float .f64 y]] w _
  go_enter Try.func11, Try.ntmps11
  go_upto_region 1 with fail
  rw [← HWB.out, ← HGA.out, ← HGP.out]
  clear HWB
  go_wp2_with fail
  refine Calls.mono HAT.out ?_
  rintro e w' ⟨z, rfl, hw, hz⟩
  have h2 := hw.symm
  subst h2
  have HZ := Hid.mk' hz
  clear hw hz HAT
  go_wp2_with fail
  refine Calls.mono HPK.out ?_
  rintro e w' ⟨rfl, hw⟩
  have h2 := hw.symm
  subst h2
  clear hw HPK
  have HC := Hid.mk' (copy_any (HBS.out.but HDX.out.tx.wgrow (fun _ _ _ h => h)) (by have := HSM.out; omega))
  go_wp2_with fail
  refine Calls.mono HC.out ?_
  rintro e w1 ⟨v1, rfl, how, hbe⟩
  have k1 : Grow wb w1 := But.of hbe
  obtain ⟨m, hm⟩ : ∃ m, m = bs.length := ⟨_, rfl⟩
  obtain ⟨xa, xc, hv1⟩ := own_sl how.own
  rw [← hm] at hv1
  subst hv1
  have h1 : Dx Q wQ (fun b => (Q b ∨ b = gp ∨ b = ga) ∨ (Value.slice xa m xc).ownBlock = some b) w0 w1 gt gx gp ga ⟨kd, tk, ky, .slice va vn vc, bs, wt, y⟩ s s := HDX.out.add k1 (fun b e => .inl e) (fun b e => e.elim .inl (fun e => .inr ⟨(how.ge b e).1, (how.ge b e).2⟩))
  have HML := Hid.mk' hm
  have hmb : (m : Int) ≤ 1000 := by have := HSM.out; omega
  obtain ⟨pc, hpc⟩ : ∃ pc, pc = s.putc ky := ⟨_, rfl⟩
  have HPC := Hid.mk' hpc
  have HPT : Hid (Calls Try.prog 16 #[ptr gt, .int .i64 ky, .slice xa m xc, .bool wt] w1 fun e w' => e = .returned (.int .i64 pc) ∧ Dx Q wQ (fun b => (Q b ∨ b = gp ∨ b = ga) ∨ (Value.slice xa m xc).ownBlock = some b) w0 w' gt gx gp ga ⟨kd, tk, ky, .slice va vn vc, bs, wt, y⟩ (s.put ky bs wt) s ∧ Kept (fun b => (Q b ∨ b = gp ∨ b = ga) ∨ (Value.slice xa m xc).ownBlock = some b) w1 w') := by
    rw [hpc]
    exact h1.T (fun F hf hg => fl_put hf HKY.out ⟨how.bs, fun _ j hj => .inr (hg j (.inr hj))⟩ (by have := HSM.out; omega))
  have HOW1 := Hid.mk' how
  have HSZ : Hid (gp < wb.heap.size ∧ ga < wb.heap.size ∧ ∀ b, (Value.slice xa m xc).ownBlock = some b → wb.heap.size ≤ b) := ⟨HDX.out.bp.lt, HDX.out.ba.lt, fun b hb => (how.ge b hb).1⟩
  have p0 : w1.cell? ⟨gp, 0, none⟩ = some (ptr gt) := h1.bp.cell 0
  have a2 : w1.cell? ⟨ga, 2, none⟩ = some (.int .i64 ky) := h1.ba.cell 2
  have a4 : w1.cell? ⟨ga, 4, none⟩ = some (.bool wt) := h1.ba.cell 4
  clear how hbe k1 h1 hm hpc HC
  go_wp2_with fail
  refine Calls.mono HPT.out ?_
  rintro e w2 ⟨rfl, h2, hkp⟩
  have HF1 := Hid.mk' h2
  have HOW := Hid.mk' (HOW1.out.but hkp (fun j hj _ e => e (.inr hj)))
  clear h2 hkp HPT HOW1 p0 p1 a0 a1 a2 a3 a4 a5
  go_wp2
  go_loopw [8] (fun kv wq => ∃ (k : Nat) (zs : List Nat), k ≤ m ∧ kv = .int .i64 k ∧ zs.length = m ∧ Ow wq wb.heap.size (.slice xa m xc) zs ∧ Dx Q wQ (fun b => (Q b ∨ b = gp ∨ b = ga) ∨ (Value.slice xa m xc).ownBlock = some b) w0 wq gt gx gp ga ⟨kd, tk, ky, .slice va vn vc, bs, wt, y⟩ (s.put ky bs wt) s) (fun kv _ => m - (intOf kv).toNat)
  case atStart => exact ⟨0, _, Nat.zero_le _, rfl, HML.out.symm, HOW.out, HF1.out⟩
  case round =>
    clear HOW HF1
    obtain ⟨k, zs, hkm, rfl, hzl, how, hf1⟩ := hrel
    have HZL := Hid.mk' hzl
    by_cases hklt : k < m
    · have hki : (k : Int) < (m : Int) := by omega
      obtain ⟨g, cp, R, e1, hge, hblk, -, -, -⟩ := how.opn (by omega)
      simp only [Value.slice.injEq] at e1
      obtain ⟨rfl, -, rfl⟩ := e1
      obtain ⟨z, hz⟩ : ∃ z, z = zs.getD k 0 := ⟨_, rfl⟩
      have hk' : k < zs.length := by omega
      have hzk : zs[k]? = some z := by rw [hz, List.getD_eq_getElem?_getD, List.getElem?_eq_getElem hk']; rfl
      have hz256 : z < 256 := how.lt z (List.mem_of_getElem? hzk)
      have c7 : wr.cell? ⟨g, k, none⟩ = some (.int .u8 (z : Int)) := by
        rw [hblk.cell, List.getElem?_append_left (by simp [u8s]; omega)]
        simp [u8s, hzk]
      have f7 : wr.frozen? ⟨g, k, none⟩ = false := hblk.free k
      have hu8 := u8_next z hz256
      have HZ1 := Hid.mk' (Ow.setA (y := (z + 1) % 256) how hzl hk' (Nat.mod_lt _ (by decide)))
      have HF2 := Hid.mk' (hf1.turn (But.set1 wr g k (.int .u8 (((z + 1) % 256 : Nat) : Int))) (fun b e => by
        rw [e]
        have h9 := HGP.out
        have h10 := HGA.out
        have h11 := HSZ.out
        exact ⟨⟨.inr rfl, fun hq => by have := HQL.out _ hq; omega⟩, by omega, by omega⟩))
      clear hge hblk hz hk' hzk hz256 how hf1
      go_wp2
      exact ⟨⟨k + 1, _, by omega, by go_num, by rw [List.length_set]; exact HZL.out, HZ1.out, HF2.out⟩, by simp [intOf]; omega⟩
    have hki : ¬ ((k : Int) < (m : Int)) := by omega
    have p1 : wr.cell? ⟨gp, 1, none⟩ = some (ptr gx) := hf1.bp.cell 1
    have a2 : wr.cell? ⟨ga, 2, none⟩ = some (.int .i64 ky) := hf1.ba.cell 2
    have a3 : wr.cell? ⟨ga, 3, none⟩ = some (.slice va vn vc) := hf1.ba.cell 3
    have a4 : wr.cell? ⟨ga, 4, none⟩ = some (.bool wt) := hf1.ba.cell 4
    have HXP : Hid (Calls Try.prog 34 #[ptr gx, .int .i64 ky, .slice va vn vc, .bool wt] wr fun e w' => e = .returned (.int .i64 pc) ∧ Dx Q wQ (fun b => (Q b ∨ b = gp ∨ b = ga) ∨ (Value.slice xa m xc).ownBlock = some b) w0 w' gt gx gp ga ⟨kd, tk, ky, .slice va vn vc, bs, wt, y⟩ (s.put ky bs wt) (s.put ky bs wt) ∧ Kept (fun b => (Q b ∨ b = gp ∨ b = ga) ∨ (Value.slice xa m xc).ownBlock = some b) wr w') := by
      rw [HPC.out]
      exact hf1.X (fun ro hr => rxput_any hr HKY.out (HBS.out.but hf1.tx.wgrow (fun _ _ _ h => h)) (by have := HSM.out; omega))
    clear how hf1
    go_wp2_with fail
    refine Calls.mono HXP.out ?_
    rintro e w3 ⟨rfl, h3, -⟩
    have HF := Hid.mk' h3
    clear h3
    go_wp2
    go_ret
    exact ⟨rfl, s.put ky bs wt, HF.out.tx.less (fun _ h => h) (fun _ h => .inl (.inl h)), put_le HB.out ky bs wt⟩
set_option maxRecDepth 100000 in
set_option maxHeartbeats 8000000 in
theorem fdo_3 {w0 w : World} {gt gx : Nat} {s : St} {A : FA} {n : Nat} {Q : Nat → Prop} {wQ : World} (h : Tx Q wQ Q w0 w gt gx s s) (hok : A.ok w0) (hsm : A.bs.length ≤ 1000) (hb : s.now ≤ n ∧ s.pins.length ≤ n) (hn : n ≤ 50000) (hq : A.kind % 9 = 3) :
    Calls Try.prog 11 #[.agg #[ptr gt, ptr gx], .agg (fac A).toArray] w (FDoX Q wQ w0 gt gx n) := by
  obtain ⟨gp, ga, wb, hgp, hga, hwb, hdx⟩ := h.boxes A
  obtain ⟨kd, tk, ky, v, bs, wt, y⟩ := A
  obtain ⟨htk, hky⟩ : i64 tk ∧ i64 ky := ⟨hok.task, hok.key⟩
  obtain ⟨va, vn, vc, rfl⟩ : ∃ a n c, v = .slice a n c := hok.bs.sl
  have HBS : Hid (Bs w0 (.slice va vn vc) bs) := hok.bs
  have HSM : Hid (bs.length ≤ 1000) := hsm
  have HB := Hid.mk' hb
  have HN := Hid.mk' hn
  have HDX := Hid.mk' hdx
  have HQL : Hid (∀ b, Q b → b < wb.heap.size) := fun b hb => hdx.tx.lt b (.inl hb)
  have HAT := Hid.mk' (hdx.at ky)
  have hpk := pick_any kd 9 wb (by decide) (by decide)
  have hq' : kd % 9 = 3 := hq
  rw [hq'] at hpk
  have HPK := Hid.mk' hpk
  have p0 : wb.cell? ⟨gp, 0, none⟩ = some (ptr gt) := hdx.bp.cell 0
  have p1 : wb.cell? ⟨gp, 1, none⟩ = some (ptr gx) := hdx.bp.cell 1
  have a0 : wb.cell? ⟨ga, 0, none⟩ = some (.int .i64 kd) := hdx.ba.cell 0
  have a1 : wb.cell? ⟨ga, 1, none⟩ = some (.int .i64 tk) := hdx.ba.cell 1
  have a2 : wb.cell? ⟨ga, 2, none⟩ = some (.int .i64 ky) := hdx.ba.cell 2
  have a3 : wb.cell? ⟨ga, 3, none⟩ = some (.slice va vn vc) := hdx.ba.cell 3
  have a4 : wb.cell? ⟨ga, 4, none⟩ = some (.bool wt) := hdx.ba.cell 4
  have a5 : wb.cell? ⟨ga, 5, none⟩ = some (.float .f64 y) := hdx.ba.cell 5
  have HTK := Hid.mk' htk
  have HKY := Hid.mk' hky
  have HGP := Hid.mk' hgp
  have HGA := Hid.mk' hga
  have HWB : Hid (wb = (w.alloc (.cells #[ptr gt, ptr gx] 28)).alloc (.cells #[.int .i64 kd, .int .i64 tk, .int .i64 ky, .slice va vn vc, .bool wt, .float .f64 y] 34)) := hwb
  clear h hok hsm hb hn hq hq' hpk hdx htk hky hgp hga hwb
  show Calls Try.prog 11 #[.agg #[ptr gt, ptr gx], .agg #[.int .i64 kd, .int .i64 tk, .int .i64 ky, .slice va vn vc, .bool wt, .float .f64 y]] w _
  go_enter Try.func11, Try.ntmps11
  go_upto_region 1 with fail
  rw [← HWB.out, ← HGA.out, ← HGP.out]
  clear HWB
  go_wp2_with fail
  refine Calls.mono HAT.out ?_
  rintro e w' ⟨z, rfl, hw, hz⟩
  have h2 := hw.symm
  subst h2
  have HZ := Hid.mk' hz
  clear hw hz HAT
  go_wp2_with fail
  refine Calls.mono HPK.out ?_
  rintro e w' ⟨rfl, hw⟩
  have h2 := hw.symm
  subst h2
  clear hw HPK
  have HC := Hid.mk' (copy_any (HBS.out.but HDX.out.tx.wgrow (fun _ _ _ h => h)) (by have := HSM.out; omega))
  go_wp2_with fail
  refine Calls.mono HC.out ?_
  rintro e w1 ⟨v1, rfl, how, hbe⟩
  have k1 : Grow wb w1 := But.of hbe
  obtain ⟨m, hm⟩ : ∃ m, m = bs.length := ⟨_, rfl⟩
  obtain ⟨xa, xc, hv1⟩ := own_sl how.own
  rw [← hm] at hv1
  subst hv1
  have h1 : Dx Q wQ (fun b => (Q b ∨ b = gp ∨ b = ga) ∨ (Value.slice xa m xc).ownBlock = some b) w0 w1 gt gx gp ga ⟨kd, tk, ky, .slice va vn vc, bs, wt, y⟩ s s := HDX.out.add k1 (fun b e => .inl e) (fun b e => e.elim .inl (fun e => .inr ⟨(how.ge b e).1, (how.ge b e).2⟩))
  have HML := Hid.mk' hm
  have hmb : (m : Int) ≤ 1000 := by have := HSM.out; omega
  obtain ⟨pc, hpc⟩ : ∃ pc, pc = s.putc ky := ⟨_, rfl⟩
  have HPC := Hid.mk' hpc
  have HPT : Hid (Calls Try.prog 16 #[ptr gt, .int .i64 ky, .slice xa m xc, .bool wt] w1 fun e w' => e = .returned (.int .i64 pc) ∧ Dx Q wQ (fun b => (Q b ∨ b = gp ∨ b = ga) ∨ (Value.slice xa m xc).ownBlock = some b) w0 w' gt gx gp ga ⟨kd, tk, ky, .slice va vn vc, bs, wt, y⟩ (s.put ky bs wt) s ∧ Kept (fun b => (Q b ∨ b = gp ∨ b = ga) ∨ (Value.slice xa m xc).ownBlock = some b) w1 w') := by
    rw [hpc]
    exact h1.T (fun F hf hg => fl_put hf HKY.out ⟨how.bs, fun _ j hj => .inr (hg j (.inr hj))⟩ (by have := HSM.out; omega))
  have HOW1 := Hid.mk' how
  have HSZ : Hid (gp < wb.heap.size ∧ ga < wb.heap.size ∧ ∀ b, (Value.slice xa m xc).ownBlock = some b → wb.heap.size ≤ b) := ⟨HDX.out.bp.lt, HDX.out.ba.lt, fun b hb => (how.ge b hb).1⟩
  have p0 : w1.cell? ⟨gp, 0, none⟩ = some (ptr gt) := h1.bp.cell 0
  have a2 : w1.cell? ⟨ga, 2, none⟩ = some (.int .i64 ky) := h1.ba.cell 2
  have a4 : w1.cell? ⟨ga, 4, none⟩ = some (.bool wt) := h1.ba.cell 4
  clear how hbe k1 h1 hm hpc HC
  go_wp2_with fail
  refine Calls.mono HPT.out ?_
  rintro e w2 ⟨rfl, h2, hkp⟩
  have HF1 := Hid.mk' h2
  have HOW := Hid.mk' (HOW1.out.but hkp (fun j hj _ e => e (.inr hj)))
  clear h2 hkp HPT HOW1 p0 p1 a0 a1 a2 a3 a4 a5
  go_wp2
  go_loopw [8] (fun kv wq => ∃ (k : Nat) (zs : List Nat), k ≤ m ∧ kv = .int .i64 k ∧ zs.length = m ∧ Ow wq wb.heap.size (.slice xa m xc) zs ∧ Dx Q wQ (fun b => (Q b ∨ b = gp ∨ b = ga) ∨ (Value.slice xa m xc).ownBlock = some b) w0 wq gt gx gp ga ⟨kd, tk, ky, .slice va vn vc, bs, wt, y⟩ (s.put ky bs wt) s) (fun kv _ => m - (intOf kv).toNat)
  case atStart => exact ⟨0, _, Nat.zero_le _, rfl, HML.out.symm, HOW.out, HF1.out⟩
  case round =>
    clear HOW HF1
    obtain ⟨k, zs, hkm, rfl, hzl, how, hf1⟩ := hrel
    have HZL := Hid.mk' hzl
    by_cases hklt : k < m
    · have hki : (k : Int) < (m : Int) := by omega
      obtain ⟨g, cp, R, e1, hge, hblk, -, -, -⟩ := how.opn (by omega)
      simp only [Value.slice.injEq] at e1
      obtain ⟨rfl, -, rfl⟩ := e1
      obtain ⟨z, hz⟩ : ∃ z, z = zs.getD k 0 := ⟨_, rfl⟩
      have hk' : k < zs.length := by omega
      have hzk : zs[k]? = some z := by rw [hz, List.getD_eq_getElem?_getD, List.getElem?_eq_getElem hk']; rfl
      have hz256 : z < 256 := how.lt z (List.mem_of_getElem? hzk)
      have c7 : wr.cell? ⟨g, k, none⟩ = some (.int .u8 (z : Int)) := by
        rw [hblk.cell, List.getElem?_append_left (by simp [u8s]; omega)]
        simp [u8s, hzk]
      have f7 : wr.frozen? ⟨g, k, none⟩ = false := hblk.free k
      have hu8 := u8_next z hz256
      have HZ1 := Hid.mk' (Ow.setA (y := (z + 1) % 256) how hzl hk' (Nat.mod_lt _ (by decide)))
      have HF2 := Hid.mk' (hf1.turn (But.set1 wr g k (.int .u8 (((z + 1) % 256 : Nat) : Int))) (fun b e => by
        rw [e]
        have h9 := HGP.out
        have h10 := HGA.out
        have h11 := HSZ.out
        exact ⟨⟨.inr rfl, fun hq => by have := HQL.out _ hq; omega⟩, by omega, by omega⟩))
      clear hge hblk hz hk' hzk hz256 how hf1
      go_wp2
      exact ⟨⟨k + 1, _, by omega, by go_num, by rw [List.length_set]; exact HZL.out, HZ1.out, HF2.out⟩, by simp [intOf]; omega⟩
    have hki : ¬ ((k : Int) < (m : Int)) := by omega
    have p1 : wr.cell? ⟨gp, 1, none⟩ = some (ptr gx) := hf1.bp.cell 1
    have a2 : wr.cell? ⟨ga, 2, none⟩ = some (.int .i64 ky) := hf1.ba.cell 2
    have a3 : wr.cell? ⟨ga, 3, none⟩ = some (.slice va vn vc) := hf1.ba.cell 3
    have a4 : wr.cell? ⟨ga, 4, none⟩ = some (.bool wt) := hf1.ba.cell 4
    have HXP : Hid (Calls Try.prog 34 #[ptr gx, .int .i64 ky, .slice va vn vc, .bool wt] wr fun e w' => e = .returned (.int .i64 pc) ∧ Dx Q wQ (fun b => (Q b ∨ b = gp ∨ b = ga) ∨ (Value.slice xa m xc).ownBlock = some b) w0 w' gt gx gp ga ⟨kd, tk, ky, .slice va vn vc, bs, wt, y⟩ (s.put ky bs wt) (s.put ky bs wt) ∧ Kept (fun b => (Q b ∨ b = gp ∨ b = ga) ∨ (Value.slice xa m xc).ownBlock = some b) wr w') := by
      rw [HPC.out]
      exact hf1.X (fun ro hr => rxput_any hr HKY.out (HBS.out.but hf1.tx.wgrow (fun _ _ _ h => h)) (by have := HSM.out; omega))
    clear how hf1
    go_wp2_with fail
    refine Calls.mono HXP.out ?_
    rintro e w3 ⟨rfl, h3, -⟩
    have HF := Hid.mk' h3
    clear h3
    go_wp2
    go_ret
    exact ⟨rfl, s.put ky bs wt, HF.out.tx.less (fun _ h => h) (fun _ h => .inl (.inl h)), put_le HB.out ky bs wt⟩
end Go.Proofs.Ytmlklmhochihbaa
/- The law's do of frames: kinds 4. -/
namespace Go.Proofs.Ytmlklmhochihbaa
open Go.RowKit

set_option maxRecDepth 100000 in
set_option maxHeartbeats 8000000 in
theorem fdo_4 {w0 w : World} {gt gx : Nat} {s : St} {A : FA} {n : Nat} {Q : Nat → Prop} {wQ : World} (h : Tx Q wQ Q w0 w gt gx s s) (hok : A.ok w0) (hsm : A.bs.length ≤ 1000) (hb : s.now ≤ n ∧ s.pins.length ≤ n) (hn : n ≤ 50000) (hq : A.kind % 9 = 4) :
    Calls Try.prog 11 #[.agg #[ptr gt, ptr gx], .agg (fac A).toArray] w (FDoX Q wQ w0 gt gx n) := by
  obtain ⟨gp, ga, wb, hgp, hga, hwb, hdx⟩ := h.boxes A
  obtain ⟨kd, tk, ky, v, bs, wt, y⟩ := A
  obtain ⟨htk, hky⟩ : i64 tk ∧ i64 ky := ⟨hok.task, hok.key⟩
  obtain ⟨va, vn, vc, rfl⟩ : ∃ a n c, v = .slice a n c := hok.bs.sl
  have HBS : Hid (Bs w0 (.slice va vn vc) bs) := hok.bs
  have HSM : Hid (bs.length ≤ 1000) := hsm
  have HB := Hid.mk' hb
  have HN := Hid.mk' hn
  have HDX := Hid.mk' hdx
  have HQL : Hid (∀ b, Q b → b < wb.heap.size) := fun b hb => hdx.tx.lt b (.inl hb)
  have HAT := Hid.mk' (hdx.at ky)
  have hpk := pick_any kd 9 wb (by decide) (by decide)
  have hq' : kd % 9 = 4 := hq
  rw [hq'] at hpk
  have HPK := Hid.mk' hpk
  have p0 : wb.cell? ⟨gp, 0, none⟩ = some (ptr gt) := hdx.bp.cell 0
  have p1 : wb.cell? ⟨gp, 1, none⟩ = some (ptr gx) := hdx.bp.cell 1
  have a0 : wb.cell? ⟨ga, 0, none⟩ = some (.int .i64 kd) := hdx.ba.cell 0
  have a1 : wb.cell? ⟨ga, 1, none⟩ = some (.int .i64 tk) := hdx.ba.cell 1
  have a2 : wb.cell? ⟨ga, 2, none⟩ = some (.int .i64 ky) := hdx.ba.cell 2
  have a3 : wb.cell? ⟨ga, 3, none⟩ = some (.slice va vn vc) := hdx.ba.cell 3
  have a4 : wb.cell? ⟨ga, 4, none⟩ = some (.bool wt) := hdx.ba.cell 4
  have a5 : wb.cell? ⟨ga, 5, none⟩ = some (.float .f64 y) := hdx.ba.cell 5
  have HTK := Hid.mk' htk
  have HKY := Hid.mk' hky
  have HGP := Hid.mk' hgp
  have HGA := Hid.mk' hga
  have HWB : Hid (wb = (w.alloc (.cells #[ptr gt, ptr gx] 28)).alloc (.cells #[.int .i64 kd, .int .i64 tk, .int .i64 ky, .slice va vn vc, .bool wt, .float .f64 y] 34)) := hwb
  clear h hok hsm hb hn hq hq' hpk hdx htk hky hgp hga hwb
  show Calls Try.prog 11 #[.agg #[ptr gt, ptr gx], .agg #[.int .i64 kd, .int .i64 tk, .int .i64 ky, .slice va vn vc, .bool wt, .float .f64 y]] w _
  go_enter Try.func11, Try.ntmps11
  go_upto_region 1 with fail
  rw [← HWB.out, ← HGA.out, ← HGP.out]
  clear HWB
  go_wp2_with fail
  refine Calls.mono HAT.out ?_
  rintro e w' ⟨z, rfl, hw, hz⟩
  have h2 := hw.symm
  subst h2
  have HZ := Hid.mk' hz
  clear hw hz HAT
  go_wp2_with fail
  refine Calls.mono HPK.out ?_
  rintro e w' ⟨rfl, hw⟩
  have h2 := hw.symm
  subst h2
  clear hw HPK
  rcases HZ.out with ⟨hh, -⟩ | ⟨hh, -⟩
  · have HGT := Hid.mk' (HDX.out.get HKY.out hh (by have := HB.out; have := HN.out; omega))
    have HH := Hid.mk' hh
    clear hh HZ
    go_wp2_with fail
    refine Calls.mono HGT.out ?_
    rintro e w1 ⟨u, rfl, how, h1⟩
    obtain ⟨m, hm⟩ : ∃ m, m = (s.bytes ky).length := ⟨_, rfl⟩
    obtain ⟨xa, xc, hv1⟩ := own_sl how.own
    rw [← hm] at hv1
    subst hv1
    have HML := Hid.mk' hm
    have hmb : (m : Int) ≤ 281474976710656 := by have := how.len; omega
    have HXG := Hid.mk' (h1.callX (E := fun v w' => ∃ u2, v = .tuple #[u2, .int .i64 0] ∧ Bs w' u2 (s.bytes ky)) (x' := s.touch ky oneF) (fun ro hr => (rxget_has hr HKY.out HH.out (by have := HB.out; have := HN.out; omega)).mono (fun e w' k => by
      obtain ⟨v, k1, k2, k3⟩ := k
      exact ⟨_, k1, ⟨v, rfl, k2.bs⟩, k3⟩)))
    have HOW1 := Hid.mk' how
    have HSZ : Hid (gp < wb.heap.size ∧ ga < wb.heap.size ∧ ∀ b, (Value.slice xa m xc).ownBlock = some b → wb.heap.size ≤ b) := ⟨HDX.out.bp.lt, HDX.out.ba.lt, fun b hb => (how.ge b hb).1⟩
    have p1 : w1.cell? ⟨gp, 1, none⟩ = some (ptr gx) := h1.bp.cell 1
    have a2 : w1.cell? ⟨ga, 2, none⟩ = some (.int .i64 ky) := h1.ba.cell 2
    clear how h1 hm HGT
    go_wp2_with fail
    refine Calls.mono HXG.out ?_
    rintro e w2 ⟨v2, rfl, ⟨u2, rfl, hbs2⟩, h2, hkp⟩
    have how2 := HOW1.out.but hkp (fun j hj _ e => e (.inr hj))
    have hsame := same_any how2.bs hbs2
    rw [show decide (s.bytes ky = s.bytes ky) = true from decide_eq_true rfl] at hsame
    have HSAME := Hid.mk' hsame
    obtain ⟨ua, un, uc, rfl⟩ := hbs2.sl
    have HF0 := Hid.mk' h2
    have HOW0 := Hid.mk' how2
    clear hbs2 h2 hkp how2 hsame HXG HOW1 p0 p1 a0 a1 a2 a3 a4 a5
    go_wp2_with fail
    refine Calls.mono HSAME.out ?_
    rintro e w3 ⟨rfl, d, hw⟩
    have HF1 : Hid (Dx Q wQ (fun b => (Q b ∨ b = gp ∨ b = ga) ∨ (Value.slice xa m xc).ownBlock = some b) w0 w3 gt gx gp ga ⟨kd, tk, ky, .slice va vn vc, bs, wt, y⟩ (s.touch ky oneF) (s.touch ky oneF)) := by rw [hw]; exact HF0.out.grow ((But.refl _ _).drewN)
    have HOW : Hid (Ow w3 wb.heap.size (.slice xa m xc) (s.bytes ky)) := by rw [hw]; exact HOW0.out.but ((But.refl (fun _ => False) _).drewN) (fun _ _ _ h => h)
    clear hw HF0 HOW0 HSAME
    go_wp2
    go_loopw [14] (fun kv wq => ∃ (k : Nat) (zs : List Nat), k ≤ m ∧ kv = .int .i64 k ∧ zs.length = m ∧ Ow wq wb.heap.size (.slice xa m xc) zs ∧ Dx Q wQ (fun b => (Q b ∨ b = gp ∨ b = ga) ∨ (Value.slice xa m xc).ownBlock = some b) w0 wq gt gx gp ga ⟨kd, tk, ky, .slice va vn vc, bs, wt, y⟩ (s.touch ky oneF) (s.touch ky oneF)) (fun kv _ => m - (intOf kv).toNat)
    case atStart => exact ⟨0, _, Nat.zero_le _, rfl, HML.out.symm, HOW.out, HF1.out⟩
    case round =>
      clear HOW HF1
      obtain ⟨k, zs, hkm, rfl, hzl, how, hf1⟩ := hrel
      have HZL := Hid.mk' hzl
      by_cases hklt : k < m
      · have hki : (k : Int) < (m : Int) := by omega
        obtain ⟨g, cp, R, e1, hge, hblk, -, -, -⟩ := how.opn (by omega)
        simp only [Value.slice.injEq] at e1
        obtain ⟨rfl, -, rfl⟩ := e1
        obtain ⟨z, hz⟩ : ∃ z, z = zs.getD k 0 := ⟨_, rfl⟩
        have hk' : k < zs.length := by omega
        have hzk : zs[k]? = some z := by rw [hz, List.getD_eq_getElem?_getD, List.getElem?_eq_getElem hk']; rfl
        have hz256 : z < 256 := how.lt z (List.mem_of_getElem? hzk)
        have c7 : wr.cell? ⟨g, k, none⟩ = some (.int .u8 (z : Int)) := by
          rw [hblk.cell, List.getElem?_append_left (by simp [u8s]; omega)]
          simp [u8s, hzk]
        have f7 : wr.frozen? ⟨g, k, none⟩ = false := hblk.free k
        have hu8 := u8_next z hz256
        have HZ1 := Hid.mk' (Ow.setA (y := (z + 1) % 256) how hzl hk' (Nat.mod_lt _ (by decide)))
        have HF2 := Hid.mk' (hf1.turn (But.set1 wr g k (.int .u8 (((z + 1) % 256 : Nat) : Int))) (fun b e => by
          rw [e]
          have h9 := HGP.out
          have h10 := HGA.out
          have h11 := HSZ.out
          exact ⟨⟨.inr rfl, fun hq => by have := HQL.out _ hq; omega⟩, by omega, by omega⟩))
        clear hge hblk hz hk' hzk hz256 how hf1
        go_wp2
        exact ⟨⟨k + 1, _, by omega, by go_num, by rw [List.length_set]; exact HZL.out, HZ1.out, HF2.out⟩, by simp [intOf]; omega⟩
      have hki : ¬ ((k : Int) < (m : Int)) := by omega
      have HF := Hid.mk' hf1
      clear how hf1
      go_wp2
      go_ret
      exact ⟨rfl, s.touch ky oneF, HF.out.tx.less (fun _ h => h) (fun _ h => .inl (.inl h)), touch_le HB.out ky oneF⟩
  · have HGT := Hid.mk' (HDX.out.getNot HKY.out hh)
    have HXG := Hid.mk' (HDX.out.xgetNot hh)
    have hsame := same_any (Bs.nil wb) (Bs.nil wb)
    rw [show decide (([] : List Nat) = []) = true from rfl] at hsame
    have HSAME := Hid.mk' hsame
    clear hh HZ hsame
    go_wp2_with fail
    refine Calls.mono HGT.out ?_
    rintro e w' ⟨rfl, hw⟩
    have h2 := hw.symm
    subst h2
    clear hw
    go_wp2_with fail
    refine Calls.mono HXG.out ?_
    rintro e w' ⟨rfl, hw⟩
    have h2 := hw.symm
    subst h2
    clear hw
    go_wp2_with fail
    refine Calls.mono HSAME.out ?_
    rintro e w3 ⟨rfl, d, hw⟩
    have HF : Hid (Dx Q wQ (fun b => Q b ∨ b = gp ∨ b = ga) w0 w3 gt gx gp ga ⟨kd, tk, ky, .slice va vn vc, bs, wt, y⟩ s s) := by rw [hw]; exact HDX.out.grow ((But.refl _ _).drewN)
    clear hw HSAME HGT HXG p0 p1 a0 a1 a2 a3 a4 a5
    go_wp2
    go_loopw [14] (fun kv wq => kv = .int .i64 0 ∧ wq = w3) (fun _ _ => 0)
    case atStart => exact ⟨rfl, rfl⟩
    case round =>
      obtain ⟨rfl, rfl⟩ := hrel
      go_wp2
      go_ret
      exact ⟨rfl, s, HF.out.tx.less (fun _ h => h) (fun _ h => .inl h), same_le HB.out⟩
end Go.Proofs.Ytmlklmhochihbaa
/- The law's do of frames: kinds 5, 8. -/
namespace Go.Proofs.Ytmlklmhochihbaa
open Go.RowKit

set_option maxRecDepth 100000 in
set_option maxHeartbeats 8000000 in
theorem fdo_5 {w0 w : World} {gt gx : Nat} {s : St} {A : FA} {n : Nat} {Q : Nat → Prop} {wQ : World} (h : Tx Q wQ Q w0 w gt gx s s) (hok : A.ok w0) (hsm : A.bs.length ≤ 1000) (hb : s.now ≤ n ∧ s.pins.length ≤ n) (hn : n ≤ 50000) (hq : A.kind % 9 = 5) :
    Calls Try.prog 11 #[.agg #[ptr gt, ptr gx], .agg (fac A).toArray] w (FDoX Q wQ w0 gt gx n) := by
  obtain ⟨gp, ga, wb, hgp, hga, hwb, hdx⟩ := h.boxes A
  obtain ⟨kd, tk, ky, v, bs, wt, y⟩ := A
  obtain ⟨htk, hky⟩ : i64 tk ∧ i64 ky := ⟨hok.task, hok.key⟩
  obtain ⟨va, vn, vc, rfl⟩ : ∃ a n c, v = .slice a n c := hok.bs.sl
  have HBS : Hid (Bs w0 (.slice va vn vc) bs) := hok.bs
  have HSM : Hid (bs.length ≤ 1000) := hsm
  have HB := Hid.mk' hb
  have HN := Hid.mk' hn
  have HDX := Hid.mk' hdx
  have HQL : Hid (∀ b, Q b → b < wb.heap.size) := fun b hb => hdx.tx.lt b (.inl hb)
  have HAT := Hid.mk' (hdx.at ky)
  have hpk := pick_any kd 9 wb (by decide) (by decide)
  have hq' : kd % 9 = 5 := hq
  rw [hq'] at hpk
  have HPK := Hid.mk' hpk
  have p0 : wb.cell? ⟨gp, 0, none⟩ = some (ptr gt) := hdx.bp.cell 0
  have p1 : wb.cell? ⟨gp, 1, none⟩ = some (ptr gx) := hdx.bp.cell 1
  have a0 : wb.cell? ⟨ga, 0, none⟩ = some (.int .i64 kd) := hdx.ba.cell 0
  have a1 : wb.cell? ⟨ga, 1, none⟩ = some (.int .i64 tk) := hdx.ba.cell 1
  have a2 : wb.cell? ⟨ga, 2, none⟩ = some (.int .i64 ky) := hdx.ba.cell 2
  have a3 : wb.cell? ⟨ga, 3, none⟩ = some (.slice va vn vc) := hdx.ba.cell 3
  have a4 : wb.cell? ⟨ga, 4, none⟩ = some (.bool wt) := hdx.ba.cell 4
  have a5 : wb.cell? ⟨ga, 5, none⟩ = some (.float .f64 y) := hdx.ba.cell 5
  have HTK := Hid.mk' htk
  have HKY := Hid.mk' hky
  have HGP := Hid.mk' hgp
  have HGA := Hid.mk' hga
  have HWB : Hid (wb = (w.alloc (.cells #[ptr gt, ptr gx] 28)).alloc (.cells #[.int .i64 kd, .int .i64 tk, .int .i64 ky, .slice va vn vc, .bool wt, .float .f64 y] 34)) := hwb
  clear h hok hsm hb hn hq hq' hpk hdx htk hky hgp hga hwb
  show Calls Try.prog 11 #[.agg #[ptr gt, ptr gx], .agg #[.int .i64 kd, .int .i64 tk, .int .i64 ky, .slice va vn vc, .bool wt, .float .f64 y]] w _
  go_enter Try.func11, Try.ntmps11
  go_upto_region 1 with fail
  rw [← HWB.out, ← HGA.out, ← HGP.out]
  clear HWB
  go_wp2_with fail
  refine Calls.mono HAT.out ?_
  rintro e w' ⟨z, rfl, hw, hz⟩
  have h2 := hw.symm
  subst h2
  have HZ := Hid.mk' hz
  clear hw hz HAT
  go_wp2_with fail
  refine Calls.mono HPK.out ?_
  rintro e w' ⟨rfl, hw⟩
  have h2 := hw.symm
  subst h2
  clear hw HPK
  rcases HZ.out with ⟨hh, i, e0, rfl, hi, hk⟩ | ⟨hh, rfl⟩
  · have HCL := Hid.mk' (HDX.out.T (s' := s.clean ky) (r := .int .i64 0) (fun F hf _ => by
      have := fl_clean hf HKY.out
      rw [hh, if_pos rfl] at this
      exact this))
    have HI := Hid.mk' hi
    have HK0 := Hid.mk' hk
    clear hh hi hk HZ
    go_wp2_with fail
    refine Calls.mono HCL.out ?_
    rintro e w1 ⟨rfl, h1, -⟩
    obtain ⟨g, nn, cp, c1, hin, ⟨u, hu⟩, hf, h2⟩ := h1.clean HI.out
    rw [HK0.out] at h2
    have HF := Hid.mk' h2
    have hini : (i : Int) < (nn : Int) := by omega
    have p1 : w1.cell? ⟨gp, 1, none⟩ = some (ptr gx) := h1.bp.cell 1
    clear h1 h2 hin HCL p0 a0 a1 a2 a3 a4 a5
    go_wp2
    go_ret
    exact ⟨rfl, s.clean ky, HF.out.tx.less (fun _ h => h) (fun _ h => .inl h), clean_le HB.out ky⟩
  · have HCL := Hid.mk' (HDX.out.T (s' := s) (r := .int .i64 5) (fun F hf _ => by
      have := fl_clean hf HKY.out
      rw [clean_not hh, hh] at this
      exact this))
    clear hh HZ
    go_wp2_with fail
    refine Calls.mono HCL.out ?_
    rintro e w1 ⟨rfl, h1, -⟩
    have HF := Hid.mk' h1
    clear h1 HCL p0 p1 a0 a1 a2 a3 a4 a5
    go_wp2
    go_ret
    exact ⟨rfl, s, HF.out.tx.less (fun _ h => h) (fun _ h => .inl h), same_le HB.out⟩
set_option maxRecDepth 100000 in
set_option maxHeartbeats 8000000 in
theorem fdo_8 {w0 w : World} {gt gx : Nat} {s : St} {A : FA} {n : Nat} {Q : Nat → Prop} {wQ : World} (h : Tx Q wQ Q w0 w gt gx s s) (hok : A.ok w0) (hsm : A.bs.length ≤ 1000) (hb : s.now ≤ n ∧ s.pins.length ≤ n) (hn : n ≤ 50000) (hq : A.kind % 9 = 8) :
    Calls Try.prog 11 #[.agg #[ptr gt, ptr gx], .agg (fac A).toArray] w (FDoX Q wQ w0 gt gx n) := by
  obtain ⟨gp, ga, wb, hgp, hga, hwb, hdx⟩ := h.boxes A
  obtain ⟨kd, tk, ky, v, bs, wt, y⟩ := A
  obtain ⟨htk, hky⟩ : i64 tk ∧ i64 ky := ⟨hok.task, hok.key⟩
  obtain ⟨va, vn, vc, rfl⟩ : ∃ a n c, v = .slice a n c := hok.bs.sl
  have HBS : Hid (Bs w0 (.slice va vn vc) bs) := hok.bs
  have HSM : Hid (bs.length ≤ 1000) := hsm
  have HB := Hid.mk' hb
  have HN := Hid.mk' hn
  have HDX := Hid.mk' hdx
  have HQL : Hid (∀ b, Q b → b < wb.heap.size) := fun b hb => hdx.tx.lt b (.inl hb)
  have HAT := Hid.mk' (hdx.at ky)
  have hpk := pick_any kd 9 wb (by decide) (by decide)
  have hq' : kd % 9 = 8 := hq
  rw [hq'] at hpk
  have HPK := Hid.mk' hpk
  have p0 : wb.cell? ⟨gp, 0, none⟩ = some (ptr gt) := hdx.bp.cell 0
  have p1 : wb.cell? ⟨gp, 1, none⟩ = some (ptr gx) := hdx.bp.cell 1
  have a0 : wb.cell? ⟨ga, 0, none⟩ = some (.int .i64 kd) := hdx.ba.cell 0
  have a1 : wb.cell? ⟨ga, 1, none⟩ = some (.int .i64 tk) := hdx.ba.cell 1
  have a2 : wb.cell? ⟨ga, 2, none⟩ = some (.int .i64 ky) := hdx.ba.cell 2
  have a3 : wb.cell? ⟨ga, 3, none⟩ = some (.slice va vn vc) := hdx.ba.cell 3
  have a4 : wb.cell? ⟨ga, 4, none⟩ = some (.bool wt) := hdx.ba.cell 4
  have a5 : wb.cell? ⟨ga, 5, none⟩ = some (.float .f64 y) := hdx.ba.cell 5
  have HTK := Hid.mk' htk
  have HKY := Hid.mk' hky
  have HGP := Hid.mk' hgp
  have HGA := Hid.mk' hga
  have HWB : Hid (wb = (w.alloc (.cells #[ptr gt, ptr gx] 28)).alloc (.cells #[.int .i64 kd, .int .i64 tk, .int .i64 ky, .slice va vn vc, .bool wt, .float .f64 y] 34)) := hwb
  clear h hok hsm hb hn hq hq' hpk hdx htk hky hgp hga hwb
  show Calls Try.prog 11 #[.agg #[ptr gt, ptr gx], .agg #[.int .i64 kd, .int .i64 tk, .int .i64 ky, .slice va vn vc, .bool wt, .float .f64 y]] w _
  go_enter Try.func11, Try.ntmps11
  go_upto_region 1 with fail
  rw [← HWB.out, ← HGA.out, ← HGP.out]
  clear HWB
  go_wp2_with fail
  refine Calls.mono HAT.out ?_
  rintro e w' ⟨z, rfl, hw, hz⟩
  have h2 := hw.symm
  subst h2
  have HZ := Hid.mk' hz
  clear hw hz HAT
  go_wp2_with fail
  refine Calls.mono HPK.out ?_
  rintro e w' ⟨rfl, hw⟩
  have h2 := hw.symm
  subst h2
  clear hw HPK
  rcases HZ.out with ⟨hh, i, e0, rfl, hi, hk⟩ | ⟨hh, rfl⟩
  · have HCL := Hid.mk' (HDX.out.T (s' := s.touch ky y) (r := .tuple #[]) (fun F hf _ => by
      have := fl_warm (y := y) hf HKY.out (by have := HB.out; have := HN.out; omega)
      unfold St.warm at this
      rw [if_pos hh] at this
      exact this))
    clear hh hi hk HZ
    go_wp2_with fail
    refine Calls.mono HCL.out ?_
    rintro e w1 ⟨rfl, h1, -⟩
    have HD1 := Hid.mk' h1
    clear h1 HCL p0 p1 a0 a1 a2 a3 a4 a5
    go_upto_region 5 with fail
    refine region_chain [([0, 1, 2, 3, 4, 5, 6, 7], 8)] [] (fun w2 => Blk w2 gp 28 [ptr gt, ptr gx] ∧ Blk w2 ga 34 [.int .i64 kd, .int .i64 tk, .int .i64 ky, .slice va vn vc, .bool wt, .float .f64 y]) (fun w2 => Dx Q wQ (fun b => Q b ∨ b = gp ∨ b = ga) w0 w2 gt gx gp ga ⟨kd, tk, ky, .slice va vn vc, bs, wt, y⟩ (s.touch ky y) s) (by kernel_rfl) (by kernel_rfl) (fun _ _ h k => h.grow k) (fun _ h => ⟨h.bp, h.ba⟩) (HD1.out.grow ((But.refl _ w1).drew)) ?_
    intro ι hne X hX
    have d0 : ∀ x, (X x).cell? ⟨gp, 0, none⟩ = some (ptr gt) := fun x => (hX x).1.cell 0
    have d1 : ∀ x, (X x).cell? ⟨gp, 1, none⟩ = some (ptr gx) := fun x => (hX x).1.cell 1
    have d2 : ∀ x, (X x).cell? ⟨ga, 1, none⟩ = some (.int .i64 tk) := fun x => (hX x).2.cell 1
    have d3 : ∀ x, (X x).cell? ⟨ga, 2, none⟩ = some (.int .i64 ky) := fun x => (hX x).2.cell 2
    have d4 : ∀ x, (X x).cell? ⟨ga, 5, none⟩ = some (.float .f64 y) := fun x => (hX x).2.cell 5
    iterate 8 (refine still_step rfl (fun K hK => ?_); go_simp; refine hK _ ?_; clear hK K)
    refine still_nil ?_
    clear hX hne d0 d1 d2 d3 d4 X ι
    refine turn_call rfl rfl (fun v w2 => v = .tuple #[] ∧ Dx Q wQ (fun b => Q b ∨ b = gp ∨ b = ga) w0 w2 gt gx gp ga ⟨kd, tk, ky, .slice va vn vc, bs, wt, y⟩ (s.touch ky y) (s.touch ky y)) (fun _ => (fun w2 => Blk w2 gp 28 [ptr gt, ptr gx] ∧ Blk w2 ga 34 [.int .i64 kd, .int .i64 tk, .int .i64 ky, .slice va vn vc, .bool wt, .float .f64 y])) (fun _ _ _ h k => ⟨h.1, h.2.grow k⟩) (fun _ _ h => ⟨h.2.bp, h.2.ba⟩) (.inr (fun _ _ h => h)) 37 #[.pointer (some ⟨gx, 4, none⟩), .int .i64 ky, .float .f64 y] (fun _ => by kernel_rfl) ?_ ?_
    · intro w2 k2
      exact (k2.X (fun ro hr => rxtouch_any hr HKY.out (by have := HB.out; have := HN.out; omega))).mono (fun e w' k => ⟨_, k.1, rfl, k.2.1⟩)
    rintro v ⟨wq, rfl, -⟩ Y hY
    go_simp
    refine hY _ ?_
    clear hY Y
    intro ι hne X hX
    refine still_nil ?_
    clear hX hne X ι
    rintro w3 ⟨-, hf3⟩
    have HF := Hid.mk' hf3
    clear hf3
    go_wp2
    go_ret
    exact ⟨rfl, s.touch ky y, HF.out.tx.less (fun _ h => h) (fun _ h => .inl h), touch_le HB.out ky y⟩
  · have HCL := Hid.mk' (HDX.out.T (s' := s) (r := .tuple #[]) (fun F hf _ => by
      have := fl_warm (y := y) hf HKY.out (by have := HB.out; have := HN.out; omega)
      unfold St.warm at this
      rw [hh] at this
      exact this))
    clear hh HZ
    go_wp2_with fail
    refine Calls.mono HCL.out ?_
    rintro e w1 ⟨rfl, h1, -⟩
    have HF := Hid.mk' h1
    clear h1 HCL p0 p1 a0 a1 a2 a3 a4 a5
    go_wp2
    go_ret
    exact ⟨rfl, s, HF.out.tx.less (fun _ h => h) (fun _ h => .inl h), same_le HB.out⟩
end Go.Proofs.Ytmlklmhochihbaa
/- The law's do of frames: kinds 7. -/
namespace Go.Proofs.Ytmlklmhochihbaa
open Go.RowKit

set_option maxRecDepth 100000 in
set_option maxHeartbeats 8000000 in
theorem fdo_7 {w0 w : World} {gt gx : Nat} {s : St} {A : FA} {n : Nat} {Q : Nat → Prop} {wQ : World} (h : Tx Q wQ Q w0 w gt gx s s) (hok : A.ok w0) (hsm : A.bs.length ≤ 1000) (hb : s.now ≤ n ∧ s.pins.length ≤ n) (hn : n ≤ 50000) (hq : A.kind % 9 = 7) :
    Calls Try.prog 11 #[.agg #[ptr gt, ptr gx], .agg (fac A).toArray] w (FDoX Q wQ w0 gt gx n) := by
  obtain ⟨gp, ga, wb, hgp, hga, hwb, hdx⟩ := h.boxes A
  obtain ⟨kd, tk, ky, v, bs, wt, y⟩ := A
  obtain ⟨htk, hky⟩ : i64 tk ∧ i64 ky := ⟨hok.task, hok.key⟩
  obtain ⟨va, vn, vc, rfl⟩ : ∃ a n c, v = .slice a n c := hok.bs.sl
  have HBS : Hid (Bs w0 (.slice va vn vc) bs) := hok.bs
  have HSM : Hid (bs.length ≤ 1000) := hsm
  have HB := Hid.mk' hb
  have HN := Hid.mk' hn
  have HDX := Hid.mk' hdx
  have HQL : Hid (∀ b, Q b → b < wb.heap.size) := fun b hb => hdx.tx.lt b (.inl hb)
  have HAT := Hid.mk' (hdx.at ky)
  have hpk := pick_any kd 9 wb (by decide) (by decide)
  have hq' : kd % 9 = 7 := hq
  rw [hq'] at hpk
  have HPK := Hid.mk' hpk
  have p0 : wb.cell? ⟨gp, 0, none⟩ = some (ptr gt) := hdx.bp.cell 0
  have p1 : wb.cell? ⟨gp, 1, none⟩ = some (ptr gx) := hdx.bp.cell 1
  have a0 : wb.cell? ⟨ga, 0, none⟩ = some (.int .i64 kd) := hdx.ba.cell 0
  have a1 : wb.cell? ⟨ga, 1, none⟩ = some (.int .i64 tk) := hdx.ba.cell 1
  have a2 : wb.cell? ⟨ga, 2, none⟩ = some (.int .i64 ky) := hdx.ba.cell 2
  have a3 : wb.cell? ⟨ga, 3, none⟩ = some (.slice va vn vc) := hdx.ba.cell 3
  have a4 : wb.cell? ⟨ga, 4, none⟩ = some (.bool wt) := hdx.ba.cell 4
  have a5 : wb.cell? ⟨ga, 5, none⟩ = some (.float .f64 y) := hdx.ba.cell 5
  have HTK := Hid.mk' htk
  have HKY := Hid.mk' hky
  have HGP := Hid.mk' hgp
  have HGA := Hid.mk' hga
  have HWB : Hid (wb = (w.alloc (.cells #[ptr gt, ptr gx] 28)).alloc (.cells #[.int .i64 kd, .int .i64 tk, .int .i64 ky, .slice va vn vc, .bool wt, .float .f64 y] 34)) := hwb
  clear h hok hsm hb hn hq hq' hpk hdx htk hky hgp hga hwb
  show Calls Try.prog 11 #[.agg #[ptr gt, ptr gx], .agg #[.int .i64 kd, .int .i64 tk, .int .i64 ky, .slice va vn vc, .bool wt, .float .f64 y]] w _
  go_enter Try.func11, Try.ntmps11
  go_upto_region 1 with fail
  rw [← HWB.out, ← HGA.out, ← HGP.out]
  clear HWB
  go_wp2_with fail
  refine Calls.mono HAT.out ?_
  rintro e w' ⟨z, rfl, hw, hz⟩
  have h2 := hw.symm
  subst h2
  have HZ := Hid.mk' hz
  clear hw hz HAT
  go_wp2_with fail
  refine Calls.mono HPK.out ?_
  rintro e w' ⟨rfl, hw⟩
  have h2 := hw.symm
  subst h2
  clear hw HPK
  rcases HZ.out with ⟨hh, i, e0, rfl, hi, hk⟩ | ⟨hh, rfl⟩
  · have hpe : s.pin tk ky = { s with pins := s.pins ++ [(tk, ky)] } := by unfold St.pin; rw [if_pos hh]
    have HCL := Hid.mk' (HDX.out.T (s' := s.pin tk ky) (r := .int .i64 0) (fun F hf _ => by
      have := fl_pin hf HTK.out HKY.out (by have := HB.out; have := HN.out; omega)
      rw [hh, if_pos rfl] at this
      exact this))
    have HPE := Hid.mk' hpe
    have HPL := Hid.mk' (pin_le HB.out tk ky)
    clear hh hi hk HZ hpe
    go_wp2_with fail
    refine Calls.mono HCL.out ?_
    rintro e w1 ⟨rfl, h1, -⟩
    have HD1 := Hid.mk' h1
    obtain ⟨ro, ⟨vl, vp, vs, vh, FL, hm1⟩, hm2, hm3⟩ := h1.tx.ex
    have HM1 := Hid.mk' hm1
    have HM2 := Hid.mk' hm2
    have HM3 := Hid.mk' hm3
    obtain ⟨m, hm⟩ : ∃ m, m = s.pins.length := ⟨_, rfl⟩
    obtain ⟨pa, pc, e2, -⟩ := hm1.rp.shape
    rw [← hm] at e2
    subst e2
    have hro := hm1.rp.own
    rw [← hm] at hro
    have HRO := Hid.mk' hro
    have HIN : Hid (∀ k, (Value.slice pa m pc).ownBlock = some k → ro k = .map) := fun k hk => hm1.rp.inF k hk
    have HVX : Hid (¬ (Value.slice pa m pc).ownBlock = some gx) := fun e => by
      have := HIN.out gx e
      rw [hm1.ox] at this
      cases this
    have HVP : Hid (¬ (Value.slice pa m pc).ownBlock = some gp) := fun e => (hm3 gp (by rw [HIN.out gp e]; decide)).2 (.inr (.inl rfl))
    have HVA : Hid (¬ (Value.slice pa m pc).ownBlock = some ga) := fun e => (hm3 ga (by rw [HIN.out ga e]; decide)).2 (.inr (.inr rfl))
    have HBX := Hid.mk' hm1.ht.blk
    have HBP := Hid.mk' h1.bp
    have HBA := Hid.mk' h1.ba
    have HM := Hid.mk' hm
    have HMB : Hid (m ≤ 50000) := by show _ ≤ _; have := HB.out; have := HN.out; omega
    clear h1 hm1 hm2 hm3 hm hro HCL p0 p1 a0 a1 a2 a3 a4 a5
    go_upto_region 39 with fail
    refine region_chain [([0, 1, 2, 3, 4, 5, 6, 7, 8, 9, 10, 11], 12), ([], 13), ([14, 15], 16)] [] (But (fun k => (Value.slice pa m pc).ownBlock = some k) w1) (Grow w1) (by kernel_rfl) (by kernel_rfl) (fun _ _ h k => h.trans k) (fun _ h => h.mono (fun _ _ h => h.elim)) ((But.refl _ w1).drew) ?_
    intro ι hne X hX
    have d1 : ∀ x, (X x).cell? ⟨gp, 1, none⟩ = some (ptr gx) := fun x => (HBP.out.but (hX x) HVP.out).cell 1
    have d2 : ∀ x, (X x).cell? ⟨ga, 1, none⟩ = some (.int .i64 tk) := fun x => (HBA.out.but (hX x) HVA.out).cell 1
    have d3 : ∀ x, (X x).cell? ⟨ga, 2, none⟩ = some (.int .i64 ky) := fun x => (HBA.out.but (hX x) HVA.out).cell 2
    have d4 : ∀ x, (X x).cell? ⟨gx, 2, none⟩ = some (.slice pa m pc) := fun x => (HBX.out.but (hX x) HVX.out).cell 2
    iterate 11 (refine still_step rfl (fun K hK => ?_); go_simp; refine hK _ ?_; clear hK K)
    refine still_val rfl (.agg #[.int .i64 tk, .int .i64 ky]) rfl (fun z => exec_build _ [_, _] rfl [(0, .int .i64 tk), (1, .int .i64 ky)] rfl _ (bld_tw tk ky _)) ?_
    intro K hK; go_simp; refine hK _ ?_; clear hK K
    refine still_nil ?_
    clear hX hne d1 d2 d3 d4 X ι
    refine turn_run rfl rfl (fun u w' => Grow w1 w' ∧ ∃ g, u = .slice (some ⟨g, 0, none⟩) 1 1 ∧ Blk w' g 74 (twc (tk, ky))) (fun _ => But (fun k => (Value.slice pa m pc).ownBlock = some k) w1) ?_ (fun _ _ h => h.1.mono (fun _ _ h => h.elim)) (.inr (fun _ _ h => h)) ?_ ?_
    · rintro u w5 w6 ⟨h1, g, h3, h4⟩ k
      exact ⟨h1.trans k, g, h3, h4.but k (fun h => h)⟩
    · rintro w5 h4
      refine turn_row1 (v := .agg #[.int .i64 tk, .int .i64 ky]) Try.underlying67 infTw (by decide) (by decide) rfl rfl rfl ⟨h4.trans ((But.refl _ w5).alloc _), _, rfl, ?_⟩
      exact Blk.new (L := twc (tk, ky)) rfl
    rintro u ⟨wq, -, gn, rfl, -⟩ Y hY
    clear wq
    go_simp
    refine hY _ ?_
    clear hY Y
    intro ι hne X hX
    refine still_nil ?_
    clear hX hne X ι
    refine turn_run rfl rfl (fun u w' => But (fun k => (Value.slice pa m pc).ownBlock = some k) w1 w' ∧ w'.ownsRow 0 74 2 u (m + 1) (s.pins.flatMap twc ++ twc (tk, ky)) ∧ (∀ k, u.ownBlock = some k → w1.heap.size ≤ k ∨ ro k = .map)) (fun _ => But (fun k => (Value.slice pa m pc).ownBlock = some k) w1) ?_ (fun _ _ h => h.1) (.inr (fun _ _ h => h)) ?_ ?_
    · rintro u w5 w6 ⟨h1, h2, h3⟩ k
      exact ⟨h1.trans (k.mono (fun _ _ h => h.elim)), ownsRow_grow h2 k, h3⟩
    · rintro w5 ⟨h1, g', e9, h3⟩
      cases e9
      refine turn_append (v := .slice pa m pc) (n := m) (xs := s.pins.flatMap twc) (news := twc (tk, ky)) Try.underlying67 infTw rfl (by decide) rfl rfl (ownsRow_grow HRO.out h1) rfl rfl (fun j u hj => h3.cells0 j u hj) (twc_one _) (by have := HMB.out; omega) (by decide) ?_
      intro v' w6 hap
      refine ⟨(h1.mono (fun _ _ h => h.elim)).trans hap.but, hap.own, fun j hj => ?_⟩
      rcases hap.at' with e | e
      · exact .inr (HIN.out j (by rw [← e]; exact hj))
      · rw [e] at hj
        cases hj
        exact .inl h1.size
    rintro v2 ⟨wq, -, hov, -⟩ Y hY
    have HV2 : Hid (v2.oneCell' = true) := ownsRow_one hov
    clear hov wq
    go_simp
    refine hY _ ?_
    clear hY Y
    intro ι hne X hX
    iterate 2 (refine still_step rfl (fun K hK => ?_); go_simp; refine hK _ ?_; clear hK K)
    refine still_nil ?_
    clear hX hne X ι
    refine turn_run rfl rfl (fun _ w2 => Dx Q wQ (fun b => Q b ∨ b = gp ∨ b = ga) w0 w2 gt gx gp ga ⟨kd, tk, ky, .slice va vn vc, bs, wt, y⟩ (s.pin tk ky) (s.pin tk ky)) (fun _ _ => True) (fun _ _ _ h k => h.grow k) (fun _ _ _ => trivial) (.inl (by kernel_rfl)) ?_ ?_
    · rintro w5 ⟨h1, h3, h4⟩
      have hbk := HBX.out.but h1 HVX.out
      have hrow : w5.ownsRow 0 74 2 v2 (s.pins ++ [(tk, ky)]).length ((s.pins ++ [(tk, ky)]).flatMap twc) := by
        rw [show (s.pins ++ [(tk, ky)]).length = m + 1 by rw [List.length_append, ← HM.out]; rfl, show (s.pins ++ [(tk, ky)]).flatMap twc = s.pins.flatMap twc ++ twc (tk, ky) by simp]
        exact h3
      have hok := HD1.out.tx.okS
      rw [HPE.out] at hok
      obtain ⟨g1, g2, g3⟩ := HM1.out.setP h1 (fun b e => HIN.out b e) hrow h4 hok (by rw [List.length_append, ← HM.out]; have := HMB.out; simp; omega)
      have hfin := HD1.out.to (Tx.toX HD1.out.tx.qg HD1.out.tx.kp HD1.out.tx.gw HM2.out HM3.out (g1.to g2 g3))
      rw [← HPE.out] at hfin
      refine turn_store infSTw rfl rfl rfl HV2.out hbk (by simp) hfin
    rintro v5 - Y hY
    go_simp
    refine hY _ ?_
    clear hY Y
    intro ι hne X hX
    refine still_nil ?_
    clear hX hne
    intro w6 hw6
    have HF := Hid.mk' hw6
    clear hw6
    go_wp2
    go_ret
    exact ⟨rfl, s.pin tk ky, HF.out.tx.less (fun _ h => h) (fun _ h => .inl h), HPL.out⟩
  · have HCL := Hid.mk' (HDX.out.T (s' := s) (r := .int .i64 5) (fun F hf _ => by
      have := fl_pin hf HTK.out HKY.out (by have := HB.out; have := HN.out; omega)
      unfold St.pin at this
      rw [hh] at this
      exact this))
    clear hh HZ
    go_wp2_with fail
    refine Calls.mono HCL.out ?_
    rintro e w1 ⟨rfl, h1, -⟩
    have HF := Hid.mk' h1
    clear h1 HCL p0 p1 a0 a1 a2 a3 a4 a5
    go_wp2
    go_ret
    exact ⟨rfl, s, HF.out.tx.less (fun _ h => h) (fun _ h => .inl h), same_le HB.out⟩
end Go.Proofs.Ytmlklmhochihbaa
/- The law's alike of frames: all that is told of both is the same. -/
namespace Go.Proofs.Ytmlklmhochihbaa
open Go.RowKit

theorem iFx : (Try.prog.info? 65).map (·.size) = some 3 := by kernel_rfl
set_option maxRecDepth 100000 in
set_option maxHeartbeats 16000000 in
theorem falike_any {Q : Nat → Prop} {wQ w0 w : World} {gt gx : Nat} {s : St} (h : Tx Q wQ Q w0 w gt gx s s) : Calls Try.prog 12 #[.agg #[ptr gt, ptr gx]] w fun e w' => e = .returned (.bool true) ∧ Tx Q wQ Q w0 w' gt gx s s := by
  obtain ⟨wb, hwb⟩ : ∃ wb, wb = w.alloc (.cells #[ptr gt, ptr gx] 28) := ⟨_, rfl⟩
  obtain ⟨gp, hgp⟩ : ∃ gp, gp = w.heap.size := ⟨_, rfl⟩
  have hg : Grow w wb := by rw [hwb]; exact (But.refl _ w).alloc _
  have hb : Blk wb gp 28 [ptr gt, ptr gx] := by rw [hwb]; exact Blk.new (L := [ptr gt, ptr gx]) hgp.symm
  have HTB := Hid.mk' (h.then hg)
  obtain ⟨ro, hr, hf, h3⟩ := (h.then hg).ex
  have HR : Hid (∀ wz, Grow wb wz → Rx wz ro gx s) := fun wz k => hr.grow k
  have HF : Hid (∀ wz, Grow wb wz → Fl (fun b => ro b ≠ .none ∨ Q b) w0 wz gt s) := fun wz k => hf.then k
  have HBP : Hid (∀ wz, Grow wb wz → Blk wz gp 28 [ptr gt, ptr gx]) := fun wz k => hb.but k (fun h => h)
  have HWB := Hid.mk' hwb
  have HGP := Hid.mk' hgp
  have p0 : wb.cell? ⟨gp, 0, none⟩ = some (ptr gt) := hb.cell 0
  have hok := hf.ok
  have HOK := Hid.mk' hok
  have hvic := fl_victim hf
  obtain ⟨vk, hvk⟩ : ∃ vk, vk = s.vic := ⟨_, rfl⟩
  obtain ⟨vc, hvc⟩ : ∃ vc, vc = s.vicc := ⟨_, rfl⟩
  obtain ⟨lf, hlf⟩ : ∃ lf, lf = s.left := ⟨_, rfl⟩
  rw [← hvk, ← hvc] at hvic
  have HVIC := Hid.mk' hvic
  have HXV : Hid (∀ wz, Grow wb wz → Calls Try.prog 38 #[ptr gx] wz fun e w' => e = .returned (.tuple #[.int .i64 vk, .int .i64 vc]) ∧ Grow wz w') := fun wz k => by rw [hvk, hvc]; exact rxvictim_any (hr.grow k)
  have HLF : Hid (∀ wz, Grow wb wz → Calls Try.prog 24 #[ptr gt] wz fun e w' => e = .returned (.int .i64 lf) ∧ Grow wz w') := fun wz k => by rw [hlf]; exact (fl_left (hf.then k)).mono (fun e w' k => ⟨k.1, by rw [k.2]; exact But.refl _ _⟩)
  have HXL : Hid (∀ wz, Grow wb wz → Calls Try.prog 39 #[ptr gx] wz fun e w' => e = .returned (.int .i64 lf) ∧ Grow wz w') := fun wz k => by rw [hlf]; exact (rxleft_any (hr.grow k)).mono (fun e w' k => ⟨k.1, by rw [k.2]; exact But.refl _ _⟩)
  clear h hg hb hr hf h3 hok hwb hgp hvic hvk hvc hlf
  go_enter Try.func12, Try.ntmps12
  go_upto_region 1 with fail
  rw [← HWB.out, ← HGP.out]
  clear HWB
  go_wp2_with fail
  refine Calls.mono HVIC.out ?_
  rintro e w1 ⟨rfl, -, g1⟩
  have HG1 := Hid.mk' g1
  have p1 : w1.cell? ⟨gp, 1, none⟩ = some (ptr gx) := (HBP.out w1 g1).cell 1
  clear g1 p0 HVIC
  go_wp2_with fail
  refine Calls.mono (HXV.out w1 HG1.out) ?_
  rintro e w2 ⟨rfl, g2⟩
  have HG2 := Hid.mk' (HG1.out.trans g2)
  have p0 : w2.cell? ⟨gp, 0, none⟩ = some (ptr gt) := (HBP.out w2 HG2.out).cell 0
  clear g2 p1 HXV HG1
  go_wp2_with fail
  refine Calls.mono (fl_keys (HF.out w2 HG2.out)) ?_
  rintro e w3 ⟨l, rfl, hk, -⟩
  have HG3 := Hid.mk' (HG2.out.trans hk.grow)
  obtain ⟨n, hn⟩ : ∃ n, n = s.rising.length := ⟨_, rfl⟩
  have hrl : s.rising.length = s.fr.length := by
    have := (List.mergeSort_perm s.keys (fun x y => decide (x ≤ y))).length_eq
    unfold St.keys at this
    rw [List.length_map] at this
    exact this
  have hn1 : n ≤ 1024 := by have := HOK.out.le; have := HOK.out.m2; omega
  obtain ⟨la, lc, hl⟩ := own_sl hk.own
  rw [← hn] at hl
  subst hl
  have hro : ∀ x ∈ s.rising, i64 x := fun x hx => by
    have := (List.mergeSort_perm s.keys (fun x y => decide (x ≤ y))).mem_iff.1 hx
    unfold St.keys at this
    obtain ⟨e, he, rfl⟩ := List.mem_map.1 this
    exact (HOK.out.ik e he).1
  have hown0 : w3.ownsRow 0 3 1 (.slice la n lc) s.rising.length (numv s.rising) := by
    obtain ⟨a1, a2 | ⟨g, c, cu, e, -, r⟩⟩ := hk.own
    · exact ⟨a1, .inl a2⟩
    · exact ⟨a1, .inr ⟨g, c, cu, e, Nat.zero_le _, r⟩⟩
  have HNU : Hid (∀ wz, Grow w3 wz → Nums wz (.slice la n lc) s.rising) := fun wz k => (Nums.ofRow hown0 hro (by omega)).grow k
  rw [← hn] at hown0
  have HOWN := Hid.mk' hown0
  have HGE : Hid (∀ b, (Value.slice la n lc).ownBlock = some b → w2.heap.size ≤ b ∧ b < w3.heap.size) := fun b hb => by
    refine ⟨?_, own_lt hown0 hb⟩
    obtain ⟨-, ⟨e, -⟩ | ⟨g, c, cu, e, hge, -⟩⟩ := hk.own
    · rw [e] at hb; cases hb
    · rw [e] at hb; cases hb; exact hge
  have HQL : Hid (∀ b, Q b → b < w2.heap.size) := fun b hb => Nat.lt_of_lt_of_le (HTB.out.lt b hb) HG2.out.size
  have HT3 : Hid (Tx Q wQ (fun b => Q b ∨ (Value.slice la n lc).ownBlock = some b) w0 w3 gt gx s s) := (HTB.out.then HG2.out).add hk.grow (fun b hb => .inl hb) (fun b e => e.elim .inl (fun e => .inr (HGE.out b e)))
  have HN := Hid.mk' hn
  have HRL := Hid.mk' hrl
  have HN1 : Hid (n ≤ 1024) := hn1
  have HXK : Hid (∀ wz, Grow w3 wz → Calls Try.prog 41 #[ptr gx] wz fun e w' => ∃ v, e = .returned v ∧ Nums w' v s.rising ∧ Grow wz w') := fun wz k => rxkeys_any (HR.out wz (HG3.out.trans k))
  have hni : (n : Int) ≤ 1024 := by omega
  clear hk hn hrl hn1 hro hown0 HG2 p0
  go_upto_region 4 with fail
  refine region_chain [([0, 1, 2, 3, 4, 5, 6, 7, 8, 9, 10, 11, 12, 13, 14, 15, 16, 17, 18, 19, 20], 21)] [22, 23, 24] (Grow w3) (Grow w3) (by kernel_rfl) (by kernel_rfl) (fun _ _ h k => h.trans k) (fun _ h => h) ((But.refl _ w3).drew) ?_
  intro ι hne X hX
  have d0 : ∀ x, (X x).cell? ⟨gp, 0, none⟩ = some (ptr gt) := fun x => (HBP.out _ (HG3.out.trans (hX x))).cell 0
  have d1 : ∀ x, (X x).cell? ⟨gp, 1, none⟩ = some (ptr gx) := fun x => (HBP.out _ (HG3.out.trans (hX x))).cell 1
  iterate 11 (refine still_step rfl (fun K hK => ?_); go_simp; refine hK _ ?_; clear hK K)
  refine still_call rfl (.int .i64 lf) 24 #[ptr gt] (by kernel_rfl) (fun x => by kernel_rfl) (fun x => HLF.out _ (HG3.out.trans (hX x))) ?_
  intro K hK; go_simp; refine hK _ ?_; clear hK K
  iterate 2 (refine still_step rfl (fun K hK => ?_); go_simp; refine hK _ ?_; clear hK K)
  refine still_call rfl (.int .i64 lf) 39 #[ptr gx] (by kernel_rfl) (fun x => by kernel_rfl) (fun x => HXL.out _ (HG3.out.trans (hX x))) ?_
  intro K hK; go_simp; refine hK _ ?_; clear hK K
  iterate 6 (refine still_step rfl (fun K hK => ?_); go_simp; refine hK _ ?_; clear hK K)
  refine still_nil ?_
  clear hX hne d0 d1 X ι
  refine turn_call rfl (by kernel_rfl) (fun v w' => Nums w' v s.rising ∧ Grow w3 w') (fun v w' => Nums w' v s.rising ∧ Grow w3 w') (fun _ _ _ h k => ⟨h.1.grow k, h.2.trans k⟩) (fun _ _ h => h) (.inr (fun _ _ h => h.2)) 41 #[ptr gx] (fun _ => by kernel_rfl) ?_ ?_
  · intro w4 k4
    exact (HXK.out w4 k4).mono (fun e w' k => by obtain ⟨v, k1, k2, k3⟩ := k; exact ⟨v, k1, k2, k4.trans k3⟩)
  rintro v ⟨wq, hnv, -⟩ Y hY
  obtain ⟨ya, yc, rfl⟩ := hnv.len
  clear hnv wq
  rw [← HN.out] at hY ⊢
  go_simp
  refine hY _ ?_
  clear hY Y
  intro ι hne X hX
  refine still_call rfl (.bool true) 40 #[.slice la n lc, .slice ya n yc] (by kernel_rfl) (fun x => by kernel_rfl) (fun x => by
    have := sameints_any (HNU.out _ (hX x).2) (hX x).1
    rw [decide_eq_true rfl] at this
    exact this) ?_
  intro K hK; go_simp; refine hK _ ?_; clear hK K
  iterate 2 (refine still_step rfl (fun K hK => ?_); go_simp; refine hK _ ?_; clear hK K)
  refine still_nil ?_
  clear hX hne X ι
  rintro w5 ⟨-, g5⟩
  have HG5 := Hid.mk' (HG3.out.trans g5)
  have HG35 := Hid.mk' g5
  clear g5 HXK HLF HXL
  obtain ⟨vl, vp, vs, vh, FL, hm⟩ := HR.out wb (But.refl _ _)
  obtain ⟨m, hmm⟩ : ∃ m, m = FL.length := ⟨_, rfl⟩
  obtain ⟨fa, fc, e5, -⟩ := hm.rl.shape
  rw [← hmm] at e5
  subst e5
  have HM : Hid (∀ wz, Grow wb wz → RxM wz ro gx (.slice fa m fc) vp vs vh FL s) := fun wz k => hm.grow k
  have HMM := Hid.mk' hmm
  have hmi : (m : Int) ≤ 1024 := by have := hm.small.1; omega
  clear hm hmm
  go_wp2
  go_loopw [8, 9] (fun iv _ wq => ∃ i : Nat, i ≤ m ∧ iv = .int .i64 i ∧ Grow w5 wq) (fun iv _ _ => m - (intOf iv).toNat)
  case atStart => exact ⟨0, Nat.zero_le _, rfl, But.refl _ _⟩
  case round =>
    obtain ⟨i, him, rfl, hgr⟩ := hrel
    have HGR := Hid.mk' (HG5.out.trans hgr)
    have HG5R := Hid.mk' hgr
    have hmw := HM.out wr HGR.out
    have c0 : wr.cell? ⟨gp, 1, none⟩ = some (ptr gx) := (HBP.out wr HGR.out).cell 1
    have c1 : wr.cell? ⟨gx, 1, none⟩ = some (.slice fa m fc) := hmw.ht.blk.cell 1
    by_cases hlt : i < m
    · have hlti : (i : Int) < (m : Int) := by omega
      obtain ⟨⟨⟨q, qb, qw⟩, qv⟩, hq⟩ : ∃ e, FL[i]? = some e := ⟨_, List.getElem?_eq_getElem (by have := HMM.out; omega)⟩
      obtain ⟨g, cp, e1, -, hcell⟩ := hmw.rl.cellAt (fun e _ => fxc_len e) hq
      simp only [Value.slice.injEq] at e1
      obtain ⟨rfl, -, rfl⟩ := e1
      have hbt := hmw.bt _ (List.mem_of_getElem? hq)
      obtain ⟨qa, qn, qc, e3⟩ := hbt.1.sl
      have e3' : qv = .slice qa qn qc := e3
      subst e3'
      have hmem : (q, qb, qw) ∈ s.fr := by
        rw [← hmw.fl]
        exact List.mem_map.2 ⟨_, List.mem_of_getElem? hq, rfl⟩
      have hmk : s.mark q = qw := (St.at_mark HOK.out hmem).1
      have HQI : Hid (i64 q) := (HOK.out.ik _ hmem).1
      have HONE := Hid.mk' (fxc_one hbt)
      have HCW : Hid (∀ c u, (fxc ((q, qb, qw), Value.slice qa qn qc))[c]? = some u → wr.cell? ((⟨g, i * 3, none⟩ : Addr).add c) = some u) := fun c u hc => by
        rw [addr_add]; exact hcell c u hc
      obtain ⟨g9, hg9⟩ : ∃ g9, g9 = wr.heap.size := ⟨_, rfl⟩
      have HG9 := Hid.mk' hg9
      have HAL : Hid (Grow wr (wr.alloc (.cells #[.int .i64 0, .slice none 0 0, .bool false] 65))) := (But.refl _ wr).alloc _
      have HBZ : Hid (Blk (wr.alloc (.cells #[.int .i64 0, .slice none 0 0, .bool false] 65)) g9 65 [.int .i64 0, .slice none 0 0, .bool false]) := Blk.new (L := [.int .i64 0, .slice none 0 0, .bool false]) hg9.symm
      have HWR : Hid (∀ wz, Grow wb wz → Calls Try.prog 28 #[ptr gt, .int .i64 q] wz fun e w' => e = .returned (.bool qw) ∧ Grow wz w') := fun wz k => by rw [← hmk]; exact (fl_written (HF.out wz k) HQI.out).mono (fun e w' k => ⟨k.1, by rw [k.2]; exact But.refl _ _⟩)
      obtain ⟨pk, hpk⟩ : ∃ pk, pk = s.pinned q := ⟨_, rfl⟩
      have HPW : Hid (∀ wz, Grow wb wz → Calls Try.prog 26 #[ptr gt, .int .i64 q] wz fun e w' => e = .returned (.bool pk) ∧ Grow wz w') := fun wz k => by rw [hpk]; exact (fl_pinned (HF.out wz k) HQI.out).mono (fun e w' k => ⟨k.1, by rw [k.2]; exact But.refl _ _⟩)
      have HXP : Hid (∀ wz, Grow wb wz → Calls Try.prog 42 #[ptr gx, .int .i64 q] wz fun e w' => e = .returned (.bool pk) ∧ Grow wz w') := fun wz k => by rw [hpk]; exact (rxpinned_any (HR.out wz k) q).mono (fun e w' k => ⟨k.1, by rw [k.2]; exact But.refl _ _⟩)
      clear hmw hcell hq hbt e3 hmem hmk hg9 hpk hgr
      go_upto_region 10 with (first
        | (refine wpList_load_cells rfl _ _ rfl ⟨g, i * 3, none⟩ rfl (fxc ((q, qb, qw), Value.slice qa qn qc)) _ HCW.out Try.underlying65 rfl iFx ?_)
        | (refine wpList_store_at rfl _ _ _ rfl g9 0 (fxc ((q, qb, qw), Value.slice qa qn qc)) (by rw [HG9.out]; rfl) rfl 65 [] [.int .i64 0, .slice none 0 0, .bool false] [] (by simpa using HBZ.out) rfl rfl iFx HONE.out ?_; intro w4 hb4 hbut4; rw [List.nil_append, List.append_nil] at hb4)
        | fail)
      have hg4 : Grow wr w4 := HAL.out.then hbut4 (fun b hb e => by have := HG9.out; omega)
      have HG4 := Hid.mk' (HGR.out.trans hg4)
      have HG54 := Hid.mk' (HG5R.out.trans hg4)
      have HB9 : Hid (∀ wz, Grow w4 wz → Blk wz g9 65 (fxc ((q, qb, qw), Value.slice qa qn qc))) := fun wz k => hb4.but k (fun h => h)
      rw [← HG9.out]
      clear hb4 hbut4 hg4 HAL HBZ HCW c0 c1 HGR HG5R
      go_upto_region 10 with fail
      refine region_chain [] [0, 1, 2, 3, 4, 5, 6, 7, 8, 9, 10, 11, 12, 13, 14, 15, 16, 17, 18, 19, 20] (Grow w4) (Grow w4) (by kernel_rfl) (by kernel_rfl) (fun _ _ h k => h.trans k) (fun _ h => h) ((But.refl _ w4).drew) ?_
      intro ι hne X hX
      have d0 : ∀ x, (X x).cell? ⟨gp, 0, none⟩ = some (ptr gt) := fun x => (HBP.out _ (HG4.out.trans (hX x))).cell 0
      have d1 : ∀ x, (X x).cell? ⟨gp, 1, none⟩ = some (ptr gx) := fun x => (HBP.out _ (HG4.out.trans (hX x))).cell 1
      have d2 : ∀ x, (X x).cell? ⟨g9, 0, none⟩ = some (.int .i64 q) := fun x => (HB9.out _ (hX x)).cell 0
      have d3 : ∀ x, (X x).cell? ⟨g9, 2, none⟩ = some (.bool qw) := fun x => (HB9.out _ (hX x)).cell 2
      have hqq : (qw != qw) = false := by simp
      have hpp : (pk != pk) = false := by simp
      iterate 4 (refine still_step rfl (fun K hK => ?_); go_simp; refine hK _ ?_; clear hK K)
      refine still_call rfl (.bool qw) 28 #[ptr gt, .int .i64 q] (by kernel_rfl) (fun x => by kernel_rfl) (fun x => HWR.out _ (HG4.out.trans (hX x))) ?_
      intro K hK; go_simp; refine hK _ ?_; clear hK K
      iterate 8 (refine still_step rfl (fun K hK => ?_); go_simp; refine hK _ ?_; clear hK K)
      refine still_call rfl (.bool pk) 26 #[ptr gt, .int .i64 q] (by kernel_rfl) (fun x => by kernel_rfl) (fun x => HPW.out _ (HG4.out.trans (hX x))) ?_
      intro K hK; go_simp; refine hK _ ?_; clear hK K
      iterate 4 (refine still_step rfl (fun K hK => ?_); go_simp; refine hK _ ?_; clear hK K)
      refine still_call rfl (.bool pk) 42 #[ptr gx, .int .i64 q] (by kernel_rfl) (fun x => by kernel_rfl) (fun x => HXP.out _ (HG4.out.trans (hX x))) ?_
      intro K hK; go_simp; refine hK _ ?_; clear hK K
      iterate 2 (refine still_step rfl (fun K hK => ?_); go_simp; refine hK _ ?_; clear hK K)
      refine still_nil ?_
      clear hX hne d0 d1 d2 d3 X ι
      intro w6 hw6
      have HG6 := Hid.mk' (HG54.out.trans hw6)
      clear hw6 HWR HPW HXP HB9
      go_wp2
      exact ⟨⟨i + 1, by omega, by go_num, HG6.out⟩, by simp [intOf]; omega⟩
    · have hlti : ¬ ((i : Int) < (m : Int)) := by omega
      have HT6 := Hid.mk' (HT3.out.then (HG35.out.trans hgr))
      have HO6 := Hid.mk' (ownsRow_grow HOWN.out (HG35.out.trans hgr))
      have hnl : s.rising.length = n := HN.out.symm
      have HNL := Hid.mk' hnl
      clear hmw hgr hnl
      go_wp2
      go_loopw [10] (fun kv wq => ∃ (k : Nat) (ks : List Int), k ≤ n ∧ kv = .int .i64 k ∧ ks.length = n ∧ wq.ownsRow 0 3 1 (.slice la n lc) n (numv ks) ∧ Tx Q wQ (fun b => Q b ∨ (Value.slice la n lc).ownBlock = some b) w0 wq gt gx s s) (fun kv _ => n - (intOf kv).toNat)
      case atStart => exact ⟨0, _, Nat.zero_le _, rfl, HNL.out, HO6.out, HT6.out⟩
      case round =>
        obtain ⟨k, ks, hkn, rfl, hkl, hrow, htx⟩ := hrel
        by_cases hklt : k < n
        · have hki : (k : Int) < (n : Int) := by omega
          obtain ⟨x, hx⟩ : ∃ x, ks[k]? = some x := ⟨_, List.getElem?_eq_getElem (by omega)⟩
          have hR : RowOf wr (fun _ => True) 3 1 (.slice la n lc) n (numv ks) := ⟨hrow, fun _ _ => trivial⟩
          obtain ⟨ao', cp', e6, hsh⟩ := hR.shape
          obtain ⟨g, hg, -, -, hc⟩ := hsh (by omega)
          simp only [Value.slice.injEq] at e6
          have e7 := e6.1.trans hg
          cases e7
          have c7 : wr.cell? ⟨g, k, none⟩ = some (.int .i64 x) := hc k _ (by simp [numv, hx])
          obtain ⟨M, hM, -⟩ := hR.blk
          have f7 : wr.frozen? ⟨g, k, none⟩ = false := hM.free k
          have hset := (hR.set k (.int .i64 (IntKind.i64.wrap (x + 1)))).own
          have hnumv : (numv ks).set k (.int .i64 (IntKind.i64.wrap (x + 1))) = numv (ks.set k (IntKind.i64.wrap (x + 1))) := by simp [numv]
          rw [hnumv] at hset
          have HS := Hid.mk' hset
          have HTX := Hid.mk' (htx.turn (But.set1 wr g k (.int .i64 (IntKind.i64.wrap (x + 1)))) (fun b e => by rw [e]; exact ⟨.inr rfl, fun hq => by have := HQL.out g hq; have := (HGE.out g rfl).1; omega⟩))
          have HKL := Hid.mk' hkl
          clear hx hR hsh hc e6 hg hM hset hnumv hrow htx hkl
          generalize hwx : IntKind.i64.wrap (x + 1) = wx at *
          go_wp2
          exact ⟨⟨k + 1, _, by omega, by go_num, by rw [List.length_set]; exact HKL.out, HS.out, HTX.out⟩, by simp [intOf]; omega⟩
        · have hki : ¬ ((k : Int) < (n : Int)) := by omega
          have HTX := Hid.mk' (htx.less (H := Q) (fun _ h => h) (fun _ h => .inl h))
          clear hrow htx hkl
          go_wp2
          go_ret
          exact ⟨rfl, HTX.out⟩
end Go.Proofs.Ytmlklmhochihbaa
