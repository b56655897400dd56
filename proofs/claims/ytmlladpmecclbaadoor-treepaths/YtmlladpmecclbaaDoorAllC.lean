/- IntMaps, Ranges, IntKit, TrDig, Ints, OwnRow, CutFrom, NumsMore, MapOf, PlMath, PlLeaf, PlOf, TrLeaf, TrSet, TrRow, TrDgs, TrAbv, PlParent, PlClimb, PlTree, TrPlan, TrBMath, TrBuild, PlPath, PlNeed. -/
import Derived.Test.YtmlladpmecclbaaDoorAllA
import Derived.Maps.Range
import Derived.Maps.RangeRun
import Derived.Test.YtmlladpmecclbaaDoorAllB
import Derived.ProofKit
import Derived.OpenShut
import Derived.ChangeOld
import Derived.Below
import Derived.Deep.Cut
/- Maps in memory that are ranged over: what a look-up tells, what an update, a delete and a clear leave, and what a range hands out. -/
namespace Go.Proofs.YtmlladpmecclbaaDoor
open Go.RowKit Go.ChangeMaps Go.WideMaps Go.MapKept Go.Maps
section
variable {P : Program} {w w' : World} {b r : Nat} {M L : List (Value × Value)} {t kt et : TypeId}

/-- A map's block: these keys, each with its element; each entry bears a stamp of its own. -/
structure Mq (P : Program) (kt : TypeId) (w : World) (b : Nat) (M : List (Value × Value)) : Prop where
  blk : ∃ es clock, w.heap[b]? = some (.map es clock) ∧ es.toList.map (fun e => (e.key, e.val)) = M ∧ (∀ x ∈ es.toList, x.born < clock) ∧ (es.toList.map (·.born)).Nodup
  key : ∀ p ∈ M, ∃ l, keyOf P kt p.1 = some l
  apart : M.Pairwise (fun p q => p.1 ≠ q.1)
theorem Mq.mp (h : Mq P kt w b M) : Mp P kt w b M := by
  obtain ⟨⟨es, c, h1, h2, -⟩, h3, h4⟩ := h
  exact ⟨⟨es, c, h1, h2⟩, h3, h4⟩
theorem Mq.lt (h : Mq P kt w b M) : b < w.heap.size := h.mp.lt
theorem Mq.but {R : Nat → Prop} (h : Mq P kt w b M) (k : But R w w') (hr : ¬ R b) : Mq P kt w' b M := by
  have hl := h.lt
  obtain ⟨⟨es, c, h1, h2⟩, h3, h4⟩ := h
  exact ⟨⟨es, c, (k.block b hl hr).trans h1, h2⟩, h3, h4⟩
theorem Mq.new (g : Nat) (h : w.heap.size = g) : Mq P kt (w.alloc (.map #[] 0)) g [] := by
  subst h
  exact ⟨⟨#[], 0, heap_alloc_new _ _, rfl, fun x hx => absurd hx (by simp), by simp⟩, fun p hp => absurd hp List.not_mem_nil, .nil⟩
theorem Mq.uniq (h : Mq P kt w b M) {k u v : Value} (hu : (k, u) ∈ M) (hv : (k, v) ∈ M) : u = v := h.mp.uniq hu hv
theorem Mq.look (K : Keyed P kt) (ht : P.underlying t = some (.map kt et)) {z : Value} (hz : (zeroValue et).run P w = .ok z w) (h : Mq P kt w b M) {key : Value} {l : Lit} (hkey : keyOf P kt key = some l) (c : Bool) :
    (∀ v, (key, v) ∈ M → (Instr.lookup t (.map (some b)) key c).run P w = .ok (if c then .tuple #[v, .bool true] else v) w) ∧ ((∀ p ∈ M, p.1 ≠ key) → (Instr.lookup t (.map (some b)) key c).run P w = .ok (if c then .tuple #[z, .bool false] else z) w) := by
  have hu := fun u v => h.uniq (k := key) (u := u) (v := v)
  obtain ⟨⟨es, clock, hb, rfl, -⟩, hk, _⟩ := h
  have hks : ∀ e ∈ es.toList, ∃ l, keyOf P kt e.key = some l := fun e he => hk (e.key, e.val) (List.mem_map.2 ⟨e, he, rfl⟩)
  rcases K.find w hkey es.toList hks with ⟨h1, h2⟩ | ⟨j, e0, h1, h2, h3⟩
  · refine ⟨fun v hv => ?_, fun _ => by simp [Instr.lookup, run_underlying ht, MapKept.run_getObj_map hb, K.check w _ hkey, h1, hz, Result.andThen]⟩
    obtain ⟨e, he, e2⟩ := List.mem_map.1 hv
    exact absurd (Prod.mk.inj e2).1 (h2 e he)
  · have hm0 : e0 ∈ es.toList := List.mem_of_getElem? h2
    have hm : (key, e0.val) ∈ es.toList.map (fun e => (e.key, e.val)) := List.mem_map.2 ⟨e0, hm0, by rw [h3]⟩
    refine ⟨fun v hv => ?_, fun hn => absurd rfl (hn _ hm)⟩
    rw [hu v e0.val hv hm]
    simp [Instr.lookup, run_underlying ht, MapKept.run_getObj_map hb, K.check w _ hkey, h1, Result.andThen]
theorem setB {w : World} {b : Nat} {es : Array MapEntry} {clock : Nat} (hb : w.heap[b]? = some (.map es clock)) (es' : Array MapEntry) (clock' : Nat) : (setBlock w b (.map es' clock')).heap[b]? = some (.map es' clock') ∧ But (· = b) w (setBlock w b (.map es' clock')) := by
  have hlt := (Array.getElem?_eq_some_iff.1 hb).1
  exact ⟨by simp [setBlock, hlt], ⟨rfl, rfl, rfl, by simp [setBlock], fun k _ hk => by simp only [setBlock]; rw [Array.getElem?_setIfInBounds_ne (fun e => hk e.symm)]⟩⟩
/-- A key that was there has another element, all others stay; a new one is behind them. -/
theorem Mq.put (K : Keyed P kt) (ht : P.underlying t = some (.map kt et)) (h : Mq P kt w b M) {key v : Value} {l : Lit} (hkey : keyOf P kt key = some l) :
    ∃ w' M', (Instr.mapUpdate t (.map (some b)) key v).run P w = .ok () w' ∧ Mq P kt w' b M' ∧ But (· = b) w w' ∧ w'.heap.size = w.heap.size ∧ (key, v) ∈ M' ∧ ∀ k u, k ≠ key → ((k, u) ∈ M' ↔ (k, u) ∈ M) := by
  obtain ⟨⟨es, clock, hb, rfl, hbo, hnd⟩, hk, hap⟩ := h
  have hks : ∀ e ∈ es.toList, ∃ l, keyOf P kt e.key = some l := fun e he => hk (e.key, e.val) (List.mem_map.2 ⟨e, he, rfl⟩)
  have hset := setB hb
  have hsz : ∀ o, (setBlock w b o).heap.size = w.heap.size := fun o => by simp [setBlock]
  rcases K.find w hkey es.toList hks with ⟨h1, h2⟩ | ⟨j, e0, h1, h2, h3⟩
  · refine ⟨setBlock w b (.map (es.push ⟨key, v, clock⟩) (clock + 1)), es.toList.map (fun e => (e.key, e.val)) ++ [(key, v)], ?_, ⟨⟨_, _, (hset _ _).1, by simp, ?_, ?_⟩, ?_, ?_⟩, (hset _ _).2, hsz _, by simp, fun k u hne => ?_⟩
    · simp [Instr.mapUpdate, run_underlying ht, MapKept.run_getObj_map hb, K.check w false hkey, h1, MapKept.run_setObj_map _ hb, Result.andThen, setBlock]
    · intro x hx
      rw [Array.toList_push] at hx
      rcases List.mem_append.1 hx with hx | hx
      · have := hbo x hx; omega
      · rw [show x = ⟨key, v, clock⟩ by simpa using hx]; exact Nat.lt_succ_self _
    · rw [Array.toList_push, List.map_append, List.nodup_append]
      refine ⟨hnd, by simp, fun a ha c hc => ?_⟩
      obtain ⟨x, hx, rfl⟩ := List.mem_map.1 ha
      have h5 := hbo x hx
      rw [show c = clock by simpa using hc]
      omega
    · intro p hp
      rcases List.mem_append.1 hp with hp | hp
      · exact hk p hp
      · obtain rfl : p = (key, v) := by simpa using hp
        exact ⟨l, hkey⟩
    · refine List.pairwise_append.2 ⟨hap, List.pairwise_singleton _ _, fun p hp q hq => ?_⟩
      obtain rfl : q = (key, v) := by simpa using hq
      obtain ⟨e, he, rfl⟩ := List.mem_map.1 hp
      exact h2 e he
    · constructor
      · intro h
        rcases List.mem_append.1 h with h | h
        · exact h
        · simp at h; exact absurd h.1 hne
      · exact fun h => List.mem_append_left _ h
  · have hlt2 : j < es.size := by
      have := (List.getElem?_eq_some_iff.1 h2).1
      simpa using this
    have hej : es[j]? = some e0 := by simpa using h2
    have hst := K.stays w hkey
    have hg : es[j] = e0 := by rw [Array.getElem?_eq_getElem hlt2] at hej; exact Option.some.inj hej
    have hmod : (es.modify j fun e => { e with key := key, val := v }).toList = es.toList.set j { e0 with key := key, val := v } := by
      apply List.ext_getElem?
      intro i
      rw [← Array.getElem?_toList.symm, Array.getElem?_modify, List.getElem?_set]
      by_cases hij : j = i
      · subst hij; simp [hlt2, hg]
      · simp [hij]
    have hmap : (es.toList.set j { e0 with key := key, val := v }).map (fun e => (e.key, e.val)) = (es.toList.map (fun e => (e.key, e.val))).set j (key, v) := by rw [List.map_set]
    have hborn : (es.toList.set j { e0 with key := key, val := v }).map (·.born) = es.toList.map (·.born) := by
      rw [List.map_set]
      apply List.ext_getElem?
      intro i
      rw [List.getElem?_set]
      by_cases hij : j = i
      · subst hij; simp [hlt2, hg]
      · simp [hij]
    have hkeys : ((es.toList.map (fun e => (e.key, e.val))).set j (key, v)).map Prod.fst = (es.toList.map (fun e => (e.key, e.val))).map Prod.fst := by
      rw [List.map_set]
      apply List.ext_getElem?
      intro i
      rw [List.getElem?_set]
      by_cases hij : j = i
      · subst hij
        simp [h3, hlt2, hg]
      · simp [hij]
    refine ⟨setBlock w b (.map (es.modify j fun e => { e with key := key, val := v }) clock), (es.toList.map (fun e => (e.key, e.val))).set j (key, v), ?_, ⟨⟨_, _, (hset _ _).1, by rw [hmod, hmap], ?_, by rw [hmod, hborn]; exact hnd⟩, ?_, ?_⟩, (hset _ _).2, hsz _, ?_, fun k u hne => ?_⟩
    · simp [Instr.mapUpdate, run_underlying ht, MapKept.run_getObj_map hb, K.check w false hkey, h1, hej, h3, hst, MapKept.run_setObj_map _ hb, Result.andThen, setBlock]
    · intro x hx
      rw [hmod] at hx
      have h5 : x.born ∈ es.toList.map (·.born) := by rw [← hborn]; exact List.mem_map.2 ⟨x, hx, rfl⟩
      obtain ⟨y, hy, e5⟩ := List.mem_map.1 h5
      rw [← e5]; exact hbo y hy
    · intro p hp
      rcases List.mem_or_eq_of_mem_set hp with hp | rfl
      · exact hk p hp
      · exact ⟨l, hkey⟩
    · have : ((es.toList.map (fun e => (e.key, e.val))).map Prod.fst).Pairwise (· ≠ ·) := List.pairwise_map.2 hap
      rw [← hkeys] at this
      exact List.pairwise_map.1 this
    · exact List.mem_iff_getElem?.2 ⟨j, by rw [List.getElem?_set]; simp [hlt2]⟩
    · constructor
      · intro h
        rcases List.mem_or_eq_of_mem_set h with h | h
        · exact h
        · exact absurd (Prod.mk.inj h).1 hne
      · intro h
        obtain ⟨i, hi⟩ := List.mem_iff_getElem?.1 h
        refine List.mem_iff_getElem?.2 ⟨i, ?_⟩
        rw [List.getElem?_set]
        by_cases hij : j = i
        · subst hij
          simp [hej, h3] at hi
          exact absurd hi.1.symm hne
        · simpa [hij] using hi
/-- A key is taken out. -/
theorem Mq.del (K : Keyed P kt) (ht : P.underlying t = some (.map kt et)) (h : Mq P kt w b M) {key : Value} {l : Lit} (hkey : keyOf P kt key = some l) (ty : TypeId) :
    ∃ w' M', (Builtin.delete_ #[t, kt] ty #[.map (some b), key]).run P w = .ok (.tuple #[]) w' ∧ Mq P kt w' b M' ∧ But (· = b) w w' ∧ w'.heap.size = w.heap.size ∧ ∀ k u, (k, u) ∈ M' ↔ (k, u) ∈ M ∧ k ≠ key := by
  have hap0 := h.apart
  have hkk := h.key
  obtain ⟨⟨es, clock, hb, rfl, hbo, hnd⟩, hk, hap⟩ := h
  have hks : ∀ e ∈ es.toList, ∃ l, keyOf P kt e.key = some l := fun e he => hk (e.key, e.val) (List.mem_map.2 ⟨e, he, rfl⟩)
  have hset := setB hb
  have hsz : ∀ o, (setBlock w b o).heap.size = w.heap.size := fun o => by simp [setBlock]
  rcases K.find w hkey es.toList hks with ⟨h1, h2⟩ | ⟨j, e0, h1, h2, h3⟩
  · refine ⟨setBlock w b (.map es clock), _, ?_, ⟨⟨es, clock, (hset _ _).1, rfl, hbo, hnd⟩, hk, hap⟩, (hset _ _).2, hsz _, fun k u => ⟨fun hm => ⟨hm, ?_⟩, fun hm => hm.1⟩⟩
    · simp [Builtin.delete_, run_underlying ht, MapKept.run_getObj_map hb, K.check w _ hkey, h1, MapKept.run_setObj_map _ hb, Result.andThen, setBlock]
    · obtain ⟨e, he, e2⟩ := List.mem_map.1 hm
      rw [← (Prod.mk.inj e2).1]; exact h2 e he
  · have hjs : j < es.size := by
      have := (List.getElem?_eq_some_iff.1 h2).1
      simpa using this
    have hsub : (es.eraseIdxIfInBounds j).toList = es.toList.eraseIdx j := by
      unfold Array.eraseIdxIfInBounds
      rw [dif_pos hjs]
      simp
    have hsl : (es.toList.eraseIdx j).Sublist es.toList := List.eraseIdx_sublist _ _
    refine ⟨setBlock w b (.map (es.eraseIdxIfInBounds j) clock), (es.toList.eraseIdx j).map (fun e => (e.key, e.val)), ?_, ⟨⟨_, _, (hset _ _).1, by rw [hsub], ?_, ?_⟩, ?_, ?_⟩, (hset _ _).2, hsz _, fun k u => ?_⟩
    · simp [Builtin.delete_, run_underlying ht, MapKept.run_getObj_map hb, K.check w _ hkey, h1, MapKept.run_setObj_map _ hb, Result.andThen, setBlock]
    · intro x hx; rw [hsub] at hx; exact hbo x (hsl.subset hx)
    · rw [hsub]; exact hnd.sublist (hsl.map _)
    · intro p hp; exact hk p ((hsl.map _).subset hp)
    · exact hap.sublist (hsl.map _)
    · have hap' := hap0
      constructor
      · intro hm
        have h4 := (hsl.map (fun e : MapEntry => (e.key, e.val))).subset hm
        refine ⟨h4, fun e4 => ?_⟩
        obtain ⟨e, he, e2⟩ := List.mem_map.1 hm
        rw [List.mem_eraseIdx_iff_getElem?] at he
        obtain ⟨i, hne, hi⟩ := he
        have h5 : (es.toList.map (fun e => (e.key, e.val)))[i]? = some (e.key, e.val) := by simp only [List.getElem?_map, hi, Option.map_some]
        have h6 : (es.toList.map (fun e => (e.key, e.val)))[j]? = some (e0.key, e0.val) := by simp only [List.getElem?_map, h2, Option.map_some]
        obtain ⟨h7, h7'⟩ := List.getElem?_eq_some_iff.1 h5
        obtain ⟨h8, h8'⟩ := List.getElem?_eq_some_iff.1 h6
        have hek : e.key = e0.key := by rw [h3, ← e4]; exact (Prod.mk.inj e2).1
        rcases Nat.lt_or_ge i j with hij | hij
        · have := List.pairwise_iff_getElem.1 hap i j h7 h8 hij
          rw [h7', h8'] at this
          exact this hek
        · have := List.pairwise_iff_getElem.1 hap j i h8 h7 (by omega)
          rw [h7', h8'] at this
          exact this hek.symm
      · rintro ⟨hm, hne⟩
        obtain ⟨e, he, e2⟩ := List.mem_map.1 hm
        refine List.mem_map.2 ⟨e, ?_, e2⟩
        rw [List.mem_eraseIdx_iff_getElem?]
        obtain ⟨i, hi⟩ := List.getElem?_of_mem he
        refine ⟨i, fun e1 => hne ?_, hi⟩
        rw [e1, h2] at hi
        cases hi
        rw [← h3]; exact (Prod.mk.inj e2).1.symm
/-- All is taken out. -/
theorem Mq.clear {d : TypeDesc} (ht : P.underlying t = some d) (h : Mq P kt w b M) (ty : TypeId) :
    ∃ w', (Builtin.clear_ #[t] ty #[.map (some b)]).run P w = .ok (.tuple #[]) w' ∧ Mq P kt w' b [] ∧ But (· = b) w w' ∧ w'.heap.size = w.heap.size := by
  obtain ⟨⟨es, clock, hb, rfl, hbo, hnd⟩, hk, hap⟩ := h
  have hset := setB hb
  refine ⟨setBlock w b (.map #[] clock), ?_, ⟨⟨_, _, (hset _ _).1, rfl, fun x hx => absurd hx (by simp), by simp⟩, fun p hp => absurd hp List.not_mem_nil, .nil⟩, (hset _ _).2, by simp [setBlock]⟩
  simp [Builtin.clear_, run_underlying ht, MapKept.run_getObj_map hb, MapKept.run_setObj_map _ hb, Result.andThen, setBlock]
/-- An iterator in block r over the map in block b: these pairs are left. -/
structure Rg (w : World) (r b : Nat) (M L : List (Value × Value)) : Prop where
  ex : ∃ es clock seen c0, w.heap[r]? = some (.mapIter (some b) clock seen c0) ∧ clock ≤ c0 ∧ w.heap[b]? = some (.map es clock) ∧ es.toList.map (fun e => (e.key, e.val)) = M ∧ (∀ x ∈ es.toList, x.born < clock) ∧ (es.toList.map (·.born)).Nodup ∧ (leftOf es seen).toList.map (fun e => (e.key, e.val)) = L
theorem Rg.ne (h : Rg w r b M L) : r ≠ b := by
  obtain ⟨es, clock, seen, c0, h1, _, h2, _⟩ := h.ex
  intro e; rw [e, h2] at h1; cases h1
theorem Rg.lt (h : Rg w r b M L) : r < w.heap.size ∧ b < w.heap.size := by
  obtain ⟨es, clock, seen, c0, h1, _, h2, _⟩ := h.ex
  exact ⟨(Array.getElem?_eq_some_iff.1 h1).1, (Array.getElem?_eq_some_iff.1 h2).1⟩
theorem Rg.but {R : Nat → Prop} (h : Rg w r b M L) (k : But R w w') (h1 : ¬ R r) (h2 : ¬ R b) : Rg w' r b M L := by
  have hl := h.lt
  obtain ⟨es, clock, seen, c0, h3, h4, h5, h6⟩ := h.ex
  exact ⟨es, clock, seen, c0, (k.block r hl.1 h1).trans h3, h4, (k.block b hl.2 h2).trans h5, h6⟩
theorem Mq.range {et : TypeId} (ht : P.underlying t = some (.map kt et)) (h : Mq P kt w b M) : ∃ w', (Instr.range t (.map (some b))).run P w = .ok (.pointer (some ⟨w.heap.size, 0, none⟩)) w' ∧ But (fun _ => False) w w' ∧ w'.heap.size = w.heap.size + 1 ∧ Rg w' w.heap.size b M M := by
  have hl := h.lt
  obtain ⟨⟨es, clock, hb, rfl, hbo, hnd⟩, hk, hap⟩ := h
  refine ⟨w.alloc (.mapIter (some b) clock #[] clock), run_range_map w t kt et b es clock ht hb, (But.refl _ w).alloc _, by simp, es, clock, #[], clock, heap_alloc_new _ _, Nat.le_refl _, by rw [heap_alloc_old w _ hl, hb], rfl, hbo, hnd, ?_⟩
  have : leftOf es #[] = es := by
    unfold leftOf
    exact Array.filter_eq_self.2 (fun x hx => by simp)
  rw [this]
theorem perm_filter {α : Type} (f : α → Nat) (e : α) : ∀ (l : List α), (l.map f).Nodup → e ∈ l → l.Perm (e :: l.filter fun x => !(f x == f e))
  | [], _, h => absurd h List.not_mem_nil
  | x :: l, hn, h => by
    have hn' : f x ∉ l.map f ∧ (l.map f).Nodup := List.nodup_cons.1 hn
    rcases List.mem_cons.1 h with rfl | h
    · have : (l.filter fun y => !(f y == f e)) = l := List.filter_eq_self.2 (fun y hy => by
        have : f y ≠ f e := fun h2 => hn'.1 (by rw [← h2]; exact List.mem_map.2 ⟨y, hy, rfl⟩)
        simpa using this)
      simp [this]
    · have hx : (!(f x == f e)) = true := by
        have : f x ≠ f e := fun h2 => hn'.1 (by rw [h2]; exact List.mem_map.2 ⟨e, h, rfl⟩)
        simpa using this
      rw [List.filter_cons, if_pos hx]
      exact ((perm_filter f e l hn'.2 h).cons x).trans (List.Perm.swap _ _ _)
/-- The next one, whichever it is. -/
theorem Rg.next (h : Rg w r b M L) (ty : TypeId) :
    (L = [] ∧ (Instr.next (.pointer (some ⟨r, 0, none⟩)) false ty).run P w = .ok (.tuple #[.bool false]) w) ∨
    ∃ p L' w', p ∈ M ∧ L.Perm (p :: L') ∧ (Instr.next (.pointer (some ⟨r, 0, none⟩)) false ty).run P w = .ok (.tuple #[.bool true, p.1, p.2]) w' ∧ But (· = r) w w' ∧ w'.heap.size = w.heap.size ∧ Rg w' r b M L' ∧ (Instr.entry (.pointer (some ⟨r, 0, none⟩))).run P w' = .ok (.tuple #[p.1, p.2]) w' := by
  have hne := h.ne
  have hl := h.lt
  obtain ⟨es, clock, seen, c0, h1, h2, h3, rfl, h4, h5, rfl⟩ := h.ex
  rcases run_next_at w ty r b clock c0 seen es clock h1 h3 h4 h2 with ⟨e0, hr⟩ | ⟨e, he, w1, hw1, hr⟩
  · have : leftOf es seen = #[] := Array.eq_empty_of_size_eq_zero e0
    exact .inl ⟨by rw [this]; rfl, hr⟩
  · have hm := mem_left he
    have hq : w1.heap = w.heap ∧ But (fun _ => False) w w1 := by
      rcases hw1 with rfl | rfl
      · exact ⟨rfl, But.refl _ _⟩
      · exact ⟨rfl, (But.refl _ w).drew⟩
    have hr1 : (setBlock w1 r (.mapIter (some b) clock (seen.push e.born) clock)).heap[r]? = some (.mapIter (some b) clock (seen.push e.born) clock) := by
      simp [setBlock, hq.1, hl.1]
    have hb1 : (setBlock w1 r (.mapIter (some b) clock (seen.push e.born) clock)).heap[b]? = some (.map es clock) := by
      simp only [setBlock]
      rw [Array.getElem?_setIfInBounds_ne hne, hq.1]; exact h3
    refine .inr ⟨(e.key, e.val), (leftOf es (seen.push e.born)).toList.map (fun e => (e.key, e.val)), _, List.mem_map.2 ⟨e, hm.1, rfl⟩, ?_, hr, ⟨by simp [setBlock]; exact hq.2.os, by simp [setBlock]; exact hq.2.tape, by simp [setBlock]; exact hq.2.output, by simp [setBlock, hq.1], fun k _ hk => by
      simp only [setBlock]
      rw [Array.getElem?_setIfInBounds_ne (fun e => hk e.symm), hq.1]⟩, by simp [setBlock, hq.1], ⟨es, clock, seen.push e.born, clock, hr1, Nat.le_refl _, hb1, rfl, h4, h5, rfl⟩, run_entry_at _ r b clock seen es clock e hr1 hb1 hm.1 h5⟩
    have hn2 : ((leftOf es seen).toList.map (·.born)).Nodup := by
      unfold leftOf
      rw [Array.toList_filter]
      exact h5.sublist (List.filter_sublist.map _)
    have h6 := perm_filter (fun e : MapEntry => e.born) e (leftOf es seen).toList hn2 he
    have h7 : ((leftOf es seen).toList.filter fun x => !(x.born == e.born)) = (leftOf es (seen.push e.born)).toList := by
      unfold leftOf
      rw [Array.toList_filter, Array.toList_filter, List.filter_filter]
      apply List.filter_congr
      intro x hx
      rw [contains_push]
      cases seen.contains x.born <;> simp
    rw [h7] at h6
    exact h6.map _
end
end Go.Proofs.YtmlladpmecclbaaDoor
/- Operations on maps, one by one; a key is taken out while the map is ranged over. -/
namespace Go.Proofs.YtmlladpmecclbaaDoor
open Go.RowKit Go.ChangeMaps Go.WideMaps Go.MapKept Go.Maps

section
variable {w w' : World} {o : Oper} {ρ : Operand → Value}
theorem exec_range {t : TypeId} {x : Operand} {u r : Value} (ho : o.op = .range t x) (hx : ρ x = u) (h : (Instr.range t u).run Tryd.prog w = .ok r w') : (execOp ρ o).run Tryd.prog w = .ok (.value r) w' := by
  unfold execOp
  simp only [ho, hx, Sem.run_bind, h, Result.andThen_ok, Sem.run_pure]
theorem exec_next {x : Operand} {u r : Value} {ty : TypeId} (ho : o.op = .next x false) (hx : ρ x = u) (hty : o.type = ty) (h : (Instr.next u false ty).run Tryd.prog w = .ok r w') : (execOp ρ o).run Tryd.prog w = .ok (.value r) w' := by
  unfold execOp
  simp only [ho, hx, hty, Sem.run_bind, h, Result.andThen_ok, Sem.run_pure]
theorem exec_entry {x : Operand} {u r : Value} (ho : o.op = .entry x) (hx : ρ x = u) (h : (Instr.entry u).run Tryd.prog w = .ok r w') : (execOp ρ o).run Tryd.prog w = .ok (.value r) w' := by
  unfold execOp
  simp only [ho, hx, Sem.run_bind, h, Result.andThen_ok, Sem.run_pure]
theorem exec_clear {t : TypeId} {x : Operand} {u r : Value} (ho : o.op = .call { callee := .builtin .clear, args := #[x], argTypes := #[t] }) (hx : ρ x = u) (h : (Builtin.clear_ #[t] o.type #[u]).run Tryd.prog w = .ok r w') : (execOp ρ o).run Tryd.prog w = .ok (.value r) w' := by
  unfold execOp
  simp only [ho, resolve, invoke, builtin, Sem.run_bind, Sem.run_pure, Result.andThen_ok, List.map_toArray, List.map_cons, List.map_nil, hx, h]
theorem exec_delete {t k : TypeId} {x y : Operand} {u v r : Value} (ho : o.op = .call { callee := .builtin .delete, args := #[x, y], argTypes := #[t, k] }) (hx : ρ x = u) (hy : ρ y = v) (h : (Builtin.delete_ #[t, k] o.type #[u, v]).run Tryd.prog w = .ok r w') : (execOp ρ o).run Tryd.prog w = .ok (.value r) w' := by
  unfold execOp
  simp only [ho, resolve, invoke, builtin, Sem.run_bind, Sem.run_pure, Result.andThen_ok, List.map_toArray, List.map_cons, List.map_nil, hx, hy, h]
end
/-- The act of a goal brought down. -/
theorem act_down {P : Program} {c : Code} {Q : Exit → Act → World → Prop} {a : Act} {w : World} (h : ∀ K : Act → Prop, (∀ a, Code.wp P c Q a w → K a) → K a) : Code.wp P c Q a w := h _ (fun _ h => h)
/-- How many an iterator has left. -/
def leftN (w : World) (r b : Nat) : Nat := match w.heap[r]?, w.heap[b]? with
  | some (.mapIter _ _ seen _), some (.map es _) => (leftOf es seen).size
  | _, _ => 0
theorem Rg.left {w : World} {r b : Nat} {M L : List (Value × Value)} (h : Rg w r b M L) : leftN w r b = L.length := by
  obtain ⟨es, clock, seen, c0, h1, -, h2, -, -, -, rfl⟩ := h.ex
  unfold leftN
  rw [h1, h2]
  simp
section
variable {P : Program} {w w' : World} {b r : Nat} {M L : List (Value × Value)} {t kt et : TypeId}
theorem Mq.len (ht : P.underlying t = some (.map kt et)) (h : Mq P kt w b M) (ty : TypeId) : (Builtin.len_ #[t] ty #[.map (some b)]).run P w = .ok (.int .i64 (M.length : Int)) w := by
  obtain ⟨⟨es, clock, hb, rfl, -⟩, -⟩ := h
  simp [Builtin.len_, run_underlying ht, MapKept.run_getObj_map hb, goInt, Result.andThen]
theorem exec_lenM {o : Oper} {ρ : Operand → Value} {x : Operand} {u r : Value} (ho : o.op = .call { callee := .builtin .len, args := #[x], argTypes := #[t] }) (hx : ρ x = u) (h : (Builtin.len_ #[t] o.type #[u]).run P w = .ok r w) : (execOp ρ o).run P w = .ok (.value r) w := by
  unfold execOp
  simp only [ho, resolve, invoke, builtin, Sem.run_bind, Sem.run_pure, Result.andThen_ok, List.map_toArray, List.map_cons, List.map_nil, hx, h]
/-- An entry that was handed out is taken out: what is left stays. -/
theorem Rg.del (K : Keyed P kt) (ht : P.underlying t = some (.map kt et)) (h : Mq P kt w b M) (hr : Rg w r b M L) {key v : Value} {l : Lit} (hkey : keyOf P kt key = some l) (hin : (key, v) ∈ M) (hout : ∀ u, (key, u) ∉ L) (ty : TypeId) :
    ∃ w' M', (Builtin.delete_ #[t, kt] ty #[.map (some b), key]).run P w = .ok (.tuple #[]) w' ∧ Mq P kt w' b M' ∧ Rg w' r b M' L ∧ But (· = b) w w' ∧ w'.heap.size = w.heap.size ∧ ∀ k u, (k, u) ∈ M' ↔ (k, u) ∈ M ∧ k ≠ key := by
  obtain ⟨w', M', hrun, hM, hbut, hsz, hmem⟩ := h.del (t := t) (et := et) K ht hkey ty
  refine ⟨w', M', hrun, hM, ?_, hbut, hsz, hmem⟩
  have hne := hr.ne
  have hlt := hr.lt
  obtain ⟨es, clock, seen, c0, h1, h2, h3, hMe, h4, h5, h6⟩ := hr.ex
  have hk := h.key
  have hks : ∀ e ∈ es.toList, ∃ l, keyOf P kt e.key = some l := fun e he => hk (e.key, e.val) (by rw [← hMe]; exact List.mem_map.2 ⟨e, he, rfl⟩)
  rcases K.find w hkey es.toList hks with ⟨g1, g2⟩ | ⟨j, e0, g1, g2, g3⟩
  · rw [← hMe] at hin
    obtain ⟨e, he, e2⟩ := List.mem_map.1 hin
    exact absurd (Prod.mk.inj e2).1 (g2 e he)
  have hjs : j < es.size := by
    have := (List.getElem?_eq_some_iff.1 g2).1
    simpa using this
  have hsub : (es.eraseIdxIfInBounds j).toList = es.toList.eraseIdx j := by
    unfold Array.eraseIdxIfInBounds
    rw [dif_pos hjs]
    simp
  have hrun2 : (Builtin.delete_ #[t, kt] ty #[.map (some b), key]).run P w = .ok (.tuple #[]) (setBlock w b (.map (es.eraseIdxIfInBounds j) clock)) := by
    simp [Builtin.delete_, run_underlying ht, MapKept.run_getObj_map h3, K.check w _ hkey, g1, MapKept.run_setObj_map _ h3, Result.andThen, setBlock]
  rw [hrun] at hrun2
  have hw' : w' = setBlock w b (.map (es.eraseIdxIfInBounds j) clock) := by
    simp only [Result.ok.injEq, true_and] at hrun2
    exact hrun2
  have hb' : w'.heap[b]? = some (.map (es.eraseIdxIfInBounds j) clock) := by rw [hw']; exact (setB h3 _ _).1
  have hr' : w'.heap[r]? = some (.mapIter (some b) clock seen c0) := (hbut.block r hlt.1 hne).trans h1
  obtain ⟨es2, clock2, hb2, hM2, -⟩ := hM.blk
  rw [hb'] at hb2
  simp only [Option.some.injEq, Obj.map.injEq] at hb2
  obtain ⟨rfl, -⟩ := hb2
  have hsl : (es.toList.eraseIdx j).Sublist es.toList := List.eraseIdx_sublist _ _
  refine ⟨_, clock, seen, c0, hr', h2, hb', hM2, fun x hx => ?_, ?_, ?_⟩
  · rw [hsub] at hx; exact h4 x (hsl.subset hx)
  · rw [hsub]; exact h5.sublist (hsl.map _)
  · rw [← h6]
    congr 1
    unfold leftOf
    rw [Array.toList_filter, Array.toList_filter, hsub]
    have hseen : seen.contains e0.born = true := by
      cases hc : seen.contains e0.born with
      | true => rfl
      | false =>
        refine absurd ?_ (hout e0.val)
        rw [← h6]
        refine List.mem_map.2 ⟨e0, ?_, by rw [g3]⟩
        unfold leftOf
        rw [Array.toList_filter]
        exact List.mem_filter.2 ⟨List.mem_of_getElem? g2, by rw [hc]; rfl⟩
    obtain ⟨hj2, hj3⟩ := List.getElem?_eq_some_iff.1 g2
    have e1 : es.toList = es.toList.take j ++ e0 :: es.toList.drop (j + 1) := by
      rw [← hj3, List.getElem_cons_drop, List.take_append_drop]
    rw [List.eraseIdx_eq_take_drop_succ]
    conv => rhs; rw [e1]
    rw [List.filter_append, List.filter_append, List.filter_cons, if_neg (by rw [hseen]; simp)]
end
end Go.Proofs.YtmlladpmecclbaaDoor
/- General: numbers as keys, single operations. -/
namespace Go.Proofs.YtmlladpmecclbaaDoor
open Go.RowKit

def i64 (K : Int) : Prop := -9223372036854775808 ≤ K ∧ K ≤ 9223372036854775807
theorem keyIa : Go.Maps.Keyed Tryd.prog 3 := Go.Maps.int_keyed Tryd.underlying3
theorem keyOfIa (K : Int) (h : i64 K) : keyOf Tryd.prog 3 (.int .i64 K) = some (.int .i64 K) := by
  refine Go.Maps.keyOf_int_mk Tryd.underlying3 ?_
  have e1 : IntKind.i64.min = -9223372036854775808 := rfl
  have e2 : IntKind.i64.max = 9223372036854775807 := rfl
  simp only [Lit.wf, e1, e2, Bool.and_eq_true, decide_eq_true_eq]
  exact h
theorem wpList_runH {ops : Array Oper} {rest : List Oper} {o : Oper} {a : Act} {w w' : World} {Q : Exit → Act → World → Prop} {v : Value} (hgd : o.guard = none) (hr : (execOp a.eval o).run Tryd.prog w = .ok (.value v) w') (h : wpList Tryd.prog ops Q rest (a.put o.dst v) w') : wpList Tryd.prog ops Q (o :: rest) a w :=
  wpList_plain hgd fun _ hK => by
    unfold Oper.wp
    rw [hr]
    exact hK _ _ h
theorem wrapN (n : Nat) (h : n ≤ 1000000000) : IntKind.i64.wrap (n : Int) = (n : Int) := by
  simp [IntKind.wrap, IntKind.bits, IntKind.signed]; omega
theorem wpList_someH {ops : Array Oper} {rest : List Oper} {o : Oper} {a : Act} {w : World} {Q : Exit → Act → World → Prop} {Φ : Value → World → Prop} (hgd : o.guard = none) (hr : ∃ v w', (execOp a.eval o).run Tryd.prog w = .ok (.value v) w' ∧ Φ v w') (h : ∀ v w', Φ v w' → wpList Tryd.prog ops Q rest (a.put o.dst v) w') : wpList Tryd.prog ops Q (o :: rest) a w := by
  obtain ⟨v, w', h1, h2⟩ := hr
  exact wpList_runH hgd h1 (h v w' h2)
section
variable {w w' : World} {o : Oper} {ρ : Operand → Value}
theorem exec_mkMap {t : TypeId} {r : Value} (ho : o.op = .makeMap t none) (h : (Instr.makeMap t none).run Tryd.prog w = .ok r w') : (execOp ρ o).run Tryd.prog w = .ok (.value r) w' := by
  unfold execOp
  simp only [ho, Option.map_none, Sem.run_bind, h, Result.andThen_ok, Sem.run_pure]
end
def kn (k : Int) : Nat := match k with
  | .ofNat n => 2 * n + 1
  | .negSucc n => 2 * n + 2
theorem kn_inj {a b : Int} (h : kn a = kn b) : a = b := by
  unfold kn at h
  cases a with
  | ofNat a =>
    cases b with
    | ofNat b => simp only at h; rw [show a = b by omega]
    | negSucc b => simp only at h; omega
  | negSucc a =>
    cases b with
    | ofNat b => simp only at h; omega
    | negSucc b => simp only at h; rw [show a = b by omega]
theorem kn_pos (a : Int) : kn a ≠ 0 := by unfold kn; cases a <;> simp
abbrev iv (k : Int) : Value := .int .i64 k
abbrev ptr (g : Nat) : Value := .pointer (some ⟨g, 0, none⟩)
theorem iv_inj {a b : Int} (h : iv a = iv b) : a = b := by simpa using h
theorem zInt (w : World) : (zeroValue 3).run Tryd.prog w = .ok (.int .i64 0) w := by kernel_rfl
theorem mkM (w : World) (t : TypeId) : (Instr.makeMap t none).run Tryd.prog w = .ok (.map (some w.heap.size)) (w.alloc (.map #[] 0)) := by
  simp [Instr.makeMap]
theorem wpList_skipH {ops : Array Oper} {rest : List Oper} {o : Oper} {a : Act} {w w' : World} {Q : Exit → Act → World → Prop} (hgd : o.guard = none) (hr : (execOp a.eval o).run Tryd.prog w = .ok .skip w') (h : wpList Tryd.prog ops Q rest (a.put o.dst undef) w') : wpList Tryd.prog ops Q (o :: rest) a w :=
  wpList_plain hgd fun _ hK => by
    unfold Oper.wp
    rw [hr]
    exact hK _ _ h
theorem wrapI {x : Int} (h : -9223372036854775808 ≤ x) (h2 : x ≤ 9223372036854775807) : IntKind.i64.wrap x = x := by
  simp [IntKind.wrap, IntKind.bits, IntKind.signed]; omega
theorem exec_ldF {w : World} {o : Oper} {ρ : Operand → Value} {T : TypeId} {d : TypeDesc} (hu : Tryd.prog.underlying T = some d) (hd : (match d with | .struct _ | .array _ _ => true | _ => false) = true) {cs : List Value} (hi : (Tryd.prog.info? T).map (·.size) = some cs.length) {x : Operand} {ad : Addr} (hc : ∀ j u, cs[j]? = some u → w.cell? (ad.add j) = some u)
    (ho : o.op = .load T x) (hx : ρ x = .pointer (some ad)) : (execOp ρ o).run Tryd.prog w = .ok (.value (.agg cs.toArray)) w := by
  have h := run_loadVar_cells w ad T cs _ hc hu hd hi
  unfold execOp
  simp only [ho, hx, Instr.loadAt, Instr.sureAddr, Sem.run_bind, Sem.run_pure, Result.andThen_ok, h]
theorem exec_allocF {w : World} {o : Oper} {ρ : Operand → Value} {T : TypeId} {Z : Array Value} (ho : o.op = .alloc T) (hz : (zeroValue T).run Tryd.prog w = .ok (.agg Z) w) : (execOp ρ o).run Tryd.prog w = .ok (.value (.pointer (some ⟨w.heap.size, 0, none⟩))) (w.alloc (.cells Z T)) := by
  simp [execOp, ho, go_sem, hz]
end Go.Proofs.YtmlladpmecclbaaDoor
/- tree: a block's digest, with a log or with none. -/
namespace Go.Proofs.YtmlladpmecclbaaDoor
open Go.RowKit

/-- The lowest 32 bits of a number. -/
def u32of (x : Int) : Nat := (x % 4294967296).toNat
theorem u32of_lt (x : Int) : u32of x < 4294967296 := by unfold u32of; omega
theorem u32of_cast (x : Int) : ((u32of x : Nat) : Int) = x % 4294967296 := by unfold u32of; omega
/-- What is hashed of a block. -/
def inp (x : Int) (b : List Nat) : List Nat := (1 :: be (u32of x) 4) ++ b
theorem inp_len (x : Int) (b : List Nat) : (inp x b).length = b.length + 5 := by simp [inp, be_len]; omega
theorem inp_lt {x : Int} {b : List Nat} (h : ∀ z ∈ b, z < 256) : ∀ z ∈ inp x b, z < 256 := by
  intro z hz
  simp only [inp, List.cons_append, List.mem_cons, List.mem_append] at hz
  rcases hz with rfl | hz | hz
  · decide
  · exact be_lt _ _ z hz
  · exact h z hz
/-- A block's digest. -/
def bd (x : Int) (b : List Nat) : List Nat := digest (inp x b)
theorem bd_len (x : Int) (b : List Nat) : (bd x b).length = 32 := (digest_wf _).1
theorem bd_wf (x : Int) (b : List Nat) : wf32 (bd x b) := digest_wf _
/-- A log, or none: then what is noted goes nowhere. -/
def LgO (w : World) (own : Owner) (lv : Value) (P : List Pr) : Prop :=
  (lv = .pointer none ∧ own = fun _ => .none) ∨ ∃ gl, lv = .pointer (some ⟨gl, 0, none⟩) ∧ Lg w own gl P [] []
theorem LgO.top {w : World} {own : Owner} {lv : Value} {P : List Pr} (h : LgO w own lv P) : Top w own := by
  rcases h with ⟨_, rfl⟩ | ⟨gl, _, h⟩
  · exact fun _ _ => rfl
  · exact h.top
theorem LgO.grow {w w' : World} {own : Owner} {lv : Value} {P : List Pr} (h : LgO w own lv P) (k : Grow w w') : LgO w' own lv P := by
  rcases h with h | ⟨gl, e, h⟩
  · exact .inl h
  · exact .inr ⟨gl, e, h.but k (fun _ _ h => h)⟩
theorem LgO.but {R : Nat → Prop} {w w' : World} {own : Owner} {lv : Value} {P : List Pr} (h : LgO w own lv P) (k : But R w w') (hr : ∀ b, own b ≠ .none → ¬ R b) : LgO w' own lv P := by
  rcases h with h | ⟨gl, e, h⟩
  · exact .inl h
  · exact .inr ⟨gl, e, h.but k hr⟩
theorem LgO.none (w : World) (P : List Pr) : LgO w (fun _ => .none) (.pointer none) P := .inl ⟨rfl, rfl⟩
/-- What is left where some was noted. -/
structure LgOTo (w : World) (own : Owner) (lv : Value) (P : List Pr) (w' : World) : Prop where
  but : But (fun b => own b ≠ .none) w w'
  ex : ∃ own', Ext own own' ∧ Fresh w own own' ∧ LgO w' own' lv P
theorem LgOTo.grow {w W W' : World} {own : Owner} {lv : Value} {P : List Pr} (h : LgOTo w own lv P W) (k : Grow W W') : LgOTo w own lv P W' := by
  obtain ⟨own', h1, h2, h3⟩ := h.ex
  exact ⟨h.but.trans (k.mono (fun _ _ h => h.elim)), own', h1, h2, h3.grow k⟩
theorem LgOTo.from {w W W' : World} {own : Owner} {lv : Value} {P : List Pr} (k : Grow w W) (h : LgOTo W own lv P W') : LgOTo w own lv P W' := by
  obtain ⟨own', h1, h2, h3⟩ := h.ex
  exact ⟨(k.mono (fun b hb e => e.elim)).trans h.but, own', h1, fun b hb => Nat.le_trans k.size (h2 b hb), h3⟩
/-- A variable that was made ahead turned behind it. -/
theorem LgOTo.var {R : Nat → Prop} {w W W1 W' : World} {own : Owner} {lv : Value} {P : List Pr} (k0 : Grow w W) (h : LgOTo W own lv P W1) (k : But R W1 W') (hr : ∀ b, R b → w.heap.size ≤ b ∧ b < W.heap.size ∧ own b = .none) : LgOTo w own lv P W' := by
  obtain ⟨own', h1, h2, h3⟩ := h.ex
  refine ⟨((k0.mono (fun _ _ h => h.elim)).trans h.but).then k (fun i hi e => absurd (hr i e).1 (by omega)), own', h1, fun b hb => Nat.le_trans k0.size (h2 b hb), h3.but k (fun b hb e => ?_)⟩
  obtain ⟨q1, q2, q3⟩ := hr b e
  by_cases hq : own' b = own b
  · exact hb (by rw [hq, q3])
  · exact absurd (h2 b hq) (by omega)
theorem LgOTo.refl {w : World} {own : Owner} {lv : Value} {P : List Pr} (h : LgO w own lv P) : LgOTo w own lv P w := ⟨But.refl _ _, own, Ext.refl _, Fresh.refl _ _, h⟩
theorem hasho_any {w : World} {own : Owner} {lv : Value} {P : List Pr} {v : Value} {xss : List (List Nat)} (h : LgO w own lv P) (hv : Ps w v xss) (hk : Kw w) (hh : Hw w) (hlen : xss.flatten.length ≤ 1000000) (hx1 : 1 ≤ xss.length) (hxl : xss.length ≤ 1000) (hcap : ∀ ao n c, v = .slice ao n c → n ≤ c) (hn : P.length < 1000000) :
    Calls Tryd.prog 33 #[lv, v] w fun e w' => e = .returned (dkey (digest xss.flatten)) ∧ LgOTo w own lv (P ++ [(xss.flatten, digest xss.flatten)]) w' := by
  rcases h with ⟨rfl, rfl⟩ | ⟨gl, rfl, h⟩
  · refine (hash_nil hv hk hh hlen hxl).mono ?_
    rintro e w' ⟨rfl, hg⟩
    exact ⟨rfl, hg.mono (fun _ _ h => h.elim), _, Ext.refl _, Fresh.refl _ _, LgO.none _ _⟩
  · refine (hash_any h hv hk hh hlen hx1 hxl hcap hn).mono ?_
    rintro e w' ⟨rfl, hg⟩
    obtain ⟨own', h1, h2, h3⟩ := hg.ex
    exact ⟨rfl, hg.but, own', h1, h2, .inr ⟨gl, rfl, h3⟩⟩
/-- Two slices in a row that the text lays. -/
theorem ps2 {w : World} {u v : Value} {xs ys : List Nat} (hu : Bs w u xs) (hv : Bs w v ys) : Ps (w.alloc (.cells #[u, v] 22)) (.slice (some ⟨w.heap.size, 0, none⟩) 2 2) [xs, ys] := by
  have hk : Grow w (w.alloc (.cells #[u, v] 22)) := (But.refl _ w).alloc _
  have hb : Blk (w.alloc (.cells [u, v].toArray 22)) w.heap.size 22 [u, v] := Blk.new rfl
  refine .inr ⟨by simp, w.heap.size, 0, 2, rfl, by simp, fun i hi => ?_⟩
  have hi2 : i = 0 ∨ i = 1 := by simp at hi; omega
  rcases hi2 with rfl | rfl
  · exact ⟨u, hb.cell 0, hu.but hk (fun _ _ _ h => h)⟩
  · exact ⟨v, hb.cell 1, hv.but hk (fun _ _ _ h => h)⟩
set_option maxRecDepth 100000 in
set_option maxHeartbeats 4000000 in
theorem tdig_any {w : World} {own : Owner} {lv : Value} {P : List Pr} {v : Value} {b : List Nat} {x : Int} (h : LgO w own lv P) (hb : Bs w v b) (hk : Kw w) (hh : Hw w) (hl : b.length ≤ 900000) (hn : P.length < 1000000) :
    Calls Tryd.prog 29 #[lv, .int .i64 x, v] w fun e w' => e = .returned (dkey (bd x b)) ∧ LgOTo w own lv (P ++ [(inp x b, bd x b)]) w' := by
  obtain ⟨Z, hZ⟩ : ∃ Z, Z = u8s z32 := ⟨_, rfl⟩
  have hz := z32v
  rw [← hZ] at hz
  have HZL : Hid (Z.length = 32) := by show _ = _; rw [hZ]; rfl
  obtain ⟨g0, hg0⟩ : ∃ g, g = w.heap.size := ⟨_, rfl⟩
  obtain ⟨W0, hW0⟩ : ∃ W0, W0 = w.alloc (.cells Z.toArray 31) := ⟨_, rfl⟩
  have hT0 : Grow w W0 := by rw [hW0]; exact (But.refl _ w).alloc _
  have HR0 : Hid (Blk W0 g0 31 Z) := by show Blk _ _ _ _; rw [hW0]; exact Blk.new hg0.symm
  obtain ⟨n, hnx⟩ : ∃ n, n = u32of x := ⟨_, rfl⟩
  have hn4 : n < 4294967296 := by rw [hnx]; exact u32of_lt x
  have hw1 : IntKind.u32.wrap x = (n : Int) := by rw [hnx, u32of_cast]; rfl
  have hw2 : IntKind.u64.wrap (n : Int) = (n : Int) := by show (n : Int) % 18446744073709551616 = _; omega
  have hT1 : Grow W0 (W0.alloc (.cells #[.int .u8 1] 5)) := (But.refl _ _).alloc _
  have HP : Hid (Calls Tryd.prog 44 #[.slice (some ⟨W0.heap.size, 0, none⟩) 1 1, .int .u64 n, .int .i64 4] (W0.alloc (.cells #[.int .u8 1] 5)) fun e w' => ∃ v', e = .returned (.tuple #[v', .int .i64 0]) ∧ Ow w' (W0.alloc (.cells #[.int .u8 1] 5)).heap.size v' ([1] ++ be n 4) ∧ Below (W0.alloc (.cells #[.int .u8 1] 5)).heap.size (W0.alloc (.cells #[.int .u8 1] 5)) w') :=
    put_ok (lit1 (own := fun _ => .none) (w := W0) (fun _ _ => rfl) 1 (by decide)).1 (by decide) n 4 (by decide) (by decide) (by omega)
  have hs0 : W0.heap.size = g0 + 1 := by rw [hW0, hg0]; simp
  rw [hs0] at HP
  obtain ⟨D, hD⟩ : ∃ D, D = bd x b := ⟨_, rfl⟩
  have HDL : Hid (D.length = 32) := by show _ = _; rw [hD]; exact bd_len _ _
  rw [← hD]
  have HD := Hid.mk' hD
  have HT0 := Hid.mk' hT0
  have HT1 := Hid.mk' (hT0.trans hT1)
  have HG0 := Hid.mk' hg0
  have HW0 := Hid.mk' hW0
  have HH := Hid.mk' h
  have HB := Hid.mk' hb
  have HK := Hid.mk' hk
  have HHW := Hid.mk' hh
  have HN := Hid.mk' hn
  have HNX := Hid.mk' hnx
  have HL := Hid.mk' hl
  clear h hb hk hh hl hn hZ hg0 hW0 hT0 hnx hT1 hs0 hD
  go_enter Tryd.func29, Tryd.ntmps29
  go_wp2_with fail
  rw [← HW0.out, ← HG0.out]
  refine Calls.mono HP.out ?_
  rintro e w1 ⟨v1, rfl, ho1, hb1⟩
  have hbs1 : Bs w1 v1 ([1] ++ be n 4) := ho1.bs
  have hg1 : Grow w w1 := HT1.out.trans (But.of hb1)
  have hfl : ([[1] ++ be n 4, b].flatten) = inp x b := by rw [HNX.out]; simp [inp]
  have hfn : ([[1] ++ be n 4, b].flatten).length ≤ 1000000 := by rw [hfl, inp_len]; have := HL.out; omega
  have hgA : Grow w (w1.alloc (.cells #[v1, v] 22)) := hg1.alloc _
  have HQ : Hid (Calls Tryd.prog 33 #[lv, .slice (some ⟨w1.heap.size, 0, none⟩) 2 2] (w1.alloc (.cells #[v1, v] 22)) fun e w' => e = .returned (dkey D) ∧ LgOTo (w1.alloc (.cells #[v1, v] 22)) own lv (P ++ [(inp x b, D)]) w') := by
    have hq := hasho_any (HH.out.grow hgA) (ps2 hbs1 (HB.out.but hg1 (fun _ _ _ h => h))) (HK.out.but hgA (fun h => h)) (HHW.out.but hgA (fun h => h)) hfn (by simp) (by simp) (by rintro ao m c e; cases e; exact Nat.le_refl _) HN.out
    rw [hfl] at hq
    rw [HD.out]
    exact hq
  have HR1 := Hid.mk' ((HR0.out.but (R := fun _ => False) ((But.refl _ W0).alloc _) (fun h => h)).but (R := fun _ => False) (But.of hb1) (fun h => h))
  have HG1 := Hid.mk' hg1
  obtain ⟨a1, n1, c1, rfl⟩ := hbs1.sl
  obtain ⟨a2, n2, c2, rfl⟩ := HB.out.sl
  clear hbs1 hb1 ho1 hg1 HP hw1 hw2 HB
  go_wp2_with fail
  refine Calls.mono HQ.out ?_
  rintro e w2 ⟨rfl, hl2⟩
  have HG0N : Hid (own g0 = .none) := HH.out.top g0 (by have := HG0.out; omega)
  have hgA : Grow w (w1.alloc (.cells #[.slice a1 n1 c1, .slice a2 n2 c2] 22)) := HG1.out.alloc _
  have HL2 := Hid.mk' hl2
  have HGA := Hid.mk' hgA
  have HSZ : Hid (g0 < (w1.alloc (.cells #[.slice a1 n1 c1, .slice a2 n2 c2] 22)).heap.size) := by have := HR1.out.lt; show _ < _; simp; omega
  have HR2 := Hid.mk' ((HR1.out.but (R := fun _ => False) ((But.refl _ w1).alloc _) (fun h => h)).but hl2.but (fun e => e HG0N.out))
  clear hl2 HQ HH HR0 HR1 hgA
  go_wp2_with (first
    | (refine wpList_store_u8s i32 rfl _ _ rfl g0 D HDL.out rfl rfl Z HZL.out HR2.out ?_; intro W9 hb9 hbut9)
    | fail)
  refine bodyPost_ret (results_cell_row rfl _ _ g0 _ _ _ _ rfl hb9 ukt rfl (by rw [i32]; simp [HDL.out])) rfl ⟨rfl, ?_⟩
  exact LgOTo.var HGA.out HL2.out hbut9 (fun b e => by rw [e]; exact ⟨by rw [HG0.out]; exact Nat.le_refl _, HSZ.out, HG0N.out⟩)
end Go.Proofs.YtmlladpmecclbaaDoor
/- Slices of numbers; an argument that is one. -/
namespace Go.Proofs.YtmlladpmecclbaaDoor
open Go.ChangeShapes Go.WideShapes Go.ChangeAt Go.RowKit Go.Deep

/-- The slice v holds these numbers. -/
def Nums (w : World) (v : Value) (fs : List Int) : Prop := (∀ x ∈ fs, -9223372036854775808 ≤ x ∧ x ≤ 9223372036854775807) ∧ fs.length ≤ 140737488355328 ∧ ((fs = [] ∧ (v = .slice none 0 0 ∨ ∃ a cap, v = .slice (some a) 0 cap)) ∨ (0 < fs.length ∧ ∃ b off cap, v = .slice (some ⟨b, off, none⟩) fs.length cap ∧ fs.length ≤ cap ∧ b < w.heap.size ∧ ∀ i, i < fs.length → w.cell? ⟨b, off + i, none⟩ = some (.int .i64 (fs.getD i 0))))
theorem Nums.but {R : Nat → Prop} {w w' : World} {v : Value} {fs : List Int} (h : Nums w v fs) (k : But R w w') (hr : ∀ j, v.ownBlock = some j → j < w.heap.size → ¬ R j) : Nums w' v fs := by
  obtain ⟨h1, h2, h3 | ⟨h0, b, off, cap, rfl, hcap, hb, hc⟩⟩ := h
  · exact ⟨h1, h2, .inl h3⟩
  · exact ⟨h1, h2, .inr ⟨h0, b, off, cap, rfl, hcap, Nat.lt_of_lt_of_le hb k.size, fun i hi => (World.cell?_of_block (k.block b hb (hr b rfl hb))).trans (hc i hi)⟩⟩
theorem Nums.grow {w w' : World} {v : Value} {fs : List Int} (h : Nums w v fs) (k : Grow w w') : Nums w' v fs := h.but k (fun _ _ _ h => h)
theorem Nums.len {w : World} {v : Value} {fs : List Int} (h : Nums w v fs) : ∃ ao cap, v = .slice ao fs.length cap := by
  obtain ⟨h1, h2, ⟨rfl, rfl | ⟨a, cap, rfl⟩⟩ | ⟨h0, b, off, cap, rfl, hb, hc⟩⟩ := h
  · exact ⟨none, 0, rfl⟩
  · exact ⟨some a, cap, rfl⟩
  · exact ⟨_, cap, rfl⟩
theorem Nums.at {w : World} {v : Value} {fs : List Int} (h : Nums w v fs) (h0 : 0 < fs.length) : ∃ b off cap, v = .slice (some ⟨b, off, none⟩) fs.length cap ∧ fs.length ≤ cap ∧ b < w.heap.size ∧ ∀ i, i < fs.length → w.cell? ⟨b, off + i, none⟩ = some (.int .i64 (fs.getD i 0)) := by
  obtain ⟨h1, h2, ⟨rfl, -⟩ | ⟨h0, h3⟩⟩ := h
  · simp at h0
  · exact h3
abbrev numv (ks : List Int) : List Value := ks.map fun k => Value.int .i64 k
theorem infNum : (Tryd.prog.info? 3).map (fun i => (i.zero, i.size, i.bytes)) = some (some (.int .i64 0), 1, 8) := by kernel_rfl
/-- An own row of numbers. -/
theorem Nums.ofRow {w : World} {base : Nat} {v : Value} {ks : List Int} (h : w.ownsRow base 3 1 v ks.length (numv ks)) (hk : ∀ x ∈ ks, -9223372036854775808 ≤ x ∧ x ≤ 9223372036854775807) (hl : ks.length ≤ 140737488355328) : Nums w v ks := by
  have hc := h
  obtain ⟨h1, ⟨e, h0⟩ | ⟨g, cap, cur, rfl, hg, hh, hcap, r⟩⟩ := h
  · have := List.eq_nil_of_length_eq_zero h0
    exact ⟨hk, hl, .inl ⟨this, .inl e⟩⟩
  · by_cases h0 : ks.length = 0
    · refine ⟨hk, hl, .inl ⟨List.eq_nil_of_length_eq_zero h0, .inr ⟨_, cap, by rw [h0]⟩⟩⟩
    · refine ⟨hk, hl, .inr ⟨by omega, g, 0, cap, rfl, hcap, lt_of_block hh, fun i hi => ?_⟩⟩
      have h2 := hc.cells (g := g) rfl i (.int .i64 (ks.getD i 0)) (by simp [numv, hi])
      have e : (⟨g, 0, none⟩ : Addr).add i = ⟨g, 0 + i, none⟩ := addr_add g 0 i
      rw [e] at h2
      exact h2
/-- Numbers are put behind none. -/
theorem exec_clone {w : World} {o : Oper} {ρ : Operand → Value} {g : Nat} {u : Value} {ks : List Int} {x y : Operand} (ho : o.op = .call { callee := .builtin .append, args := #[x, y], argTypes := #[23, 23] }) (hx : ρ x = .slice (some ⟨g, 0, none⟩) 0 0) (hg : Blk w g 3 []) (hy : ρ y = u) (hu : Nums w u ks) (hl : ks.length ≤ 100000) :
    ∃ v' w', (execOp ρ o).run Tryd.prog w = .ok (.value v') w' ∧ Nums w' v' ks ∧ (∀ k, v'.ownBlock = some k → k = g ∨ k = w.heap.size) ∧ But (· = g) w w' := by
  have hrow : w.ownsRow 0 3 1 (.slice (some ⟨g, 0, none⟩) 0 0) 0 [] := ⟨rfl, .inr ⟨g, 0, #[], rfl, Nat.zero_le _, hg, Nat.le_refl _, Nat.zero_le _, rfl, rfl⟩⟩
  have key : ∀ (ad : Addr) (c : Nat), u = .slice (some ad) ks.length c → (∀ j z, (numv ks)[j]? = some z → w.cell? (ad.add j) = some z) → ∃ v' w', (execOp ρ o).run Tryd.prog w = .ok (.value v') w' ∧ Nums w' v' ks ∧ (∀ k, v'.ownBlock = some k → k = g ∨ k = w.heap.size) ∧ But (· = g) w w' := fun ad c e hc => by
    obtain ⟨v', w', hr, ha⟩ := exec_append (news := numv ks) Tryd.underlying23 infNum rfl (by decide) ho hx hrow (hy.trans e) (by simp [numv]) hc (fun z hz => by obtain ⟨k, -, rfl⟩ := List.mem_map.1 hz; rfl) (by omega) (by decide)
    refine ⟨v', w', hr, Nums.ofRow (base := 0) (by have := ha.own; rw [List.nil_append, Nat.zero_add] at this; exact this) hu.1 hu.2.1, fun k hk => ?_, ha.but.mono (fun b _ e => by
      have e' : some g = some b := e
      exact (Option.some.inj e').symm)⟩
    rcases ha.at' with e2 | e2
    · rw [e2] at hk
      have hk' : some g = some k := hk
      exact .inl (Option.some.inj hk').symm
    · rw [e2] at hk
      exact .inr (Option.some.inj hk).symm
  obtain ⟨h1, h2, ⟨rfl, e | ⟨a, cap, e⟩⟩ | ⟨h0, b, off, cap, e, hcap, hb, hc⟩⟩ := hu
  · obtain ⟨i0, hi, hz0, hz1, hz2⟩ := info_parts infNum
    have hrun := run_append_owned_none (P := Tryd.prog) w 0 23 o.type 3 i0 1 Tryd.underlying23 hi _ 0 [] hrow
    refine ⟨.slice (some ⟨g, 0, none⟩) 0 0, w, ?_, ⟨h1, h2, .inl ⟨rfl, .inr ⟨⟨g, 0, none⟩, 0, rfl⟩⟩⟩, fun k hk => ?_, But.refl _ _⟩
    · unfold execOp
      simp only [ho, resolve, invoke, builtin, Sem.run_bind, Sem.run_pure, Result.andThen_ok, List.map_toArray, List.map_cons, List.map_nil, hx, hy, e, hrun]
    · have hk' : some g = some k := hk
      exact .inl (Option.some.inj hk').symm
  · exact key a cap e (fun j z hz => by simp [numv] at hz)
  · refine key ⟨b, off, none⟩ cap e (fun j z hz => ?_)
    have hj : j < ks.length := by
      rcases Nat.lt_or_ge j ks.length with h | h
      · exact h
      · rw [List.getElem?_eq_none (by simpa [numv] using h)] at hz; cases hz
    rw [addr_add, hc j hj, ← hz]
    simp [numv, hj]
theorem i64slice : Tryd.prog.underlying 23 = some (.slice (Tryd.prog.elem 23)) := by kernel_rfl
/-- A slice from its second number on. -/
theorem cut_one {b off n cap : Nat} (hc : n + 1 ≤ cap) : ∃ A c, (∀ w0 : World, (Instr.sliceAt 23 (.slice (some ⟨b, off, none⟩) (n + 1) cap) (some (.int .i64 1)) none none).run Tryd.prog w0 = .ok (.slice (some A) n c) w0) ∧ (0 < n → A = ⟨b, off + 1, none⟩) := by
  have he : Tryd.prog.elem 23 = 3 := by kernel_rfl
  have hs : ∀ w0 : World, (sizeOf 3).run Tryd.prog w0 = .ok 1 w0 := fun w0 => by kernel_rfl
  refine ⟨if cap = 1 then ⟨b, off, none⟩ else ⟨b, off + 1, none⟩, cap - 1, fun w0 => ?_, fun h => by rw [if_neg (by omega)]⟩
  rw [run_sliceAt_slice _ _ _ _ _ _ i64slice, run_slice_l w0 _ _ _ _ i64slice .i64 1 (by omega) (by omega), he, hs]
  by_cases hcn : cap = 1 <;> simp [Result.andThen, sliced, hcn, Addr.add]
section
variable {H : Type} {enc : TypeId × Value → H} {P : Program} {w : World} {base : Nat} {spare : Nat → Bool} {held : Bool}
theorem view_nums {t e : TypeId} {v : Value} {d : DataW H} {ps : List MemPlace} {r : Reach} {b0 : Nat} {ts : List TypeId} {ds : List (DataW H)} {j : Nat}
    (hu : P.underlying t = some (.slice e)) (hf : P.underlying e = some (.int .i64)) (hc : P.cellsOf e = 1) (hb : P.bytesOf e = 8)
    (hval : Value.okWide P w r b0 t v) (h : DataW.Trod enc P w base spare held t v d ps) (hlt : ∀ x ∈ ps, x.block < w.heap.size)
    (hsz : (DataW.weightsEach P ts ds).all (· ≤ reachBytes) = true) (ht : ts[j]? = some t) (hd : ds[j]? = some d) : ∃ fs, Nums w v fs := by
  obtain ⟨a0, len, cap, rfl⟩ := okWide_slice hu hval
  obtain ⟨fuel, hf1⟩ := h
  rcases open_slice1 hu hc hf1 with ⟨hcs, _⟩ | ⟨a, len', cap', m, n, V, D, Pl, hcs, _, hl, hm, hmm, hx, hcell⟩
  · simp [Value.cells] at hcs
    obtain ⟨rfl, rfl, rfl⟩ := hcs
    exact ⟨[], nofun, by simp, .inl ⟨rfl, .inl rfl⟩⟩
  · simp [Value.cells] at hcs
    obtain ⟨rfl, rfl, rfl⟩ := hcs
    simp only [Prod.mk.injEq] at hx
    obtain ⟨rfl, rfl⟩ := hx
    have hlm : len ≤ m := by rw [hmm]; split <;> omega
    have hreach : len * 8 ≤ 140737488351232 := by
      have := sized_slice hsz ht hd hu
      rw [hb] at this
      simp only [List.length_map, List.length_range, reachBytes] at this
      omega
    have hfl : ∀ i, i < len → ∃ b : Int, V i = .int .i64 b ∧ -9223372036854775808 ≤ b ∧ b ≤ 9223372036854775807 := by
      intro i hi
      obtain ⟨b, hb1, _, hw0⟩ := DataW.trod_int hf (hcell i (by omega)).2
      have h8 : IntKind.i64.min ≤ b ∧ b ≤ IntKind.i64.max := by simpa [Lit.wf, go_sem] using hw0
      have e1 : IntKind.i64.min = -9223372036854775808 := rfl
      have e2 : IntKind.i64.max = 9223372036854775807 := rfl
      simp only [List.cons.injEq, and_true] at hb1
      exact ⟨b, hb1, by omega, by omega⟩
    obtain ⟨B, hB⟩ := choose_lt (α := Int) (p := fun i b => V i = .int .i64 b ∧ -9223372036854775808 ≤ b ∧ b ≤ 9223372036854775807) hfl
    refine ⟨(List.range len).map B, ?_, by simp; omega, ?_⟩
    · intro z hz
      obtain ⟨i, hi, rfl⟩ := List.mem_map.1 hz
      exact (hB i (by simpa using hi)).2
    · by_cases h0 : len = 0
      · subst h0; exact .inl ⟨by simp, .inr ⟨_, _, rfl⟩⟩
      · right
        obtain ⟨b, off, spot⟩ := a
        have hspot : spot = none := by simpa [Addr.add] using World.cell?_spot (hcell 0 (by omega)).1
        subst hspot
        refine ⟨by simp; omega, b, off, cap, by simp, by simpa using hl, hlt (.cell b off) (List.mem_append_left _ (MemPlace.mem_row.2 ⟨0, by omega, by simp⟩)), ?_⟩
        intro i hi
        have hi' : i < len := by simpa using hi
        rw [← add_plain, (hcell i (by omega)).1, (hB i hi').1]
        simp [hi']
end
end Go.Proofs.YtmlladpmecclbaaDoor
/- General: own rows that are stored into, or cut short. -/
namespace Go.Proofs.YtmlladpmecclbaaDoor
open Go.RowKit

section
variable {w : World} {g : Nat}
theorem RowOf.blk {Fr : Nat → Prop} {e s n cap : Nat} {L : List Value} (h : RowOf w Fr e s (.slice (some ⟨g, 0, none⟩) n cap) n L) : ∃ M, Blk w g e M ∧ L.length ≤ M.length := by
  obtain ⟨hl, ⟨h1, _⟩ | ⟨g', cap', cur, e, hge, hb, h1, h2, h3, h4⟩⟩ := h.own
  · rcases h1 with h1 | h1 <;> simp at h1
  · simp only [Value.slice.injEq, Option.some.injEq, Addr.mk.injEq, and_true] at e
    obtain ⟨rfl, -, rfl⟩ := e
    refine ⟨cur.toList, hb, ?_⟩
    rw [hl, Array.length_toList, h3]
    exact Nat.mul_le_mul_right _ h1
theorem RowOf.set {Fr : Nat → Prop} {e s n cap : Nat} {L : List Value} (h : RowOf w Fr e s (.slice (some ⟨g, 0, none⟩) n cap) n L) (i : Nat) (u : Value) : RowOf (w.setCell ⟨g, i, none⟩ u) Fr e s (.slice (some ⟨g, 0, none⟩) n cap) n (L.set i u) := by
  obtain ⟨hl, ⟨h1, _⟩ | ⟨g', cap', cur, e, hge, hb, h1, h2, h3, h4⟩⟩ := h.own
  · rcases h1 with h1 | h1 <;> simp at h1
  · simp only [Value.slice.injEq, Option.some.injEq, Addr.mk.injEq, and_true] at e
    obtain ⟨rfl, -, rfl⟩ := e
    have hb' : Blk w g e cur.toList := hb
    have h5 := hb'.set i u
    refine ⟨⟨by rw [List.length_set]; exact hl, .inr ⟨g, cap, (cur.toList.set i u).toArray, rfl, hge, h5, h1, h2, by simpa using h3, ?_⟩⟩, h.inF⟩
    show (cur.toList.set i u).take _ = _
    rw [List.take_set, h4]
/-- Cut short. -/
theorem RowOf.take {Fr : Nat → Prop} {e s n cap m : Nat} {L : List Value} (h : RowOf w Fr e s (.slice (some ⟨g, 0, none⟩) n cap) n L) (hm : m ≤ n) : RowOf w Fr e s (.slice (some ⟨g, 0, none⟩) m cap) m (L.take (m * s)) := by
  obtain ⟨hl, ⟨h1, _⟩ | ⟨g', cap', cur, e, hge, hb, h1, h2, h3, h4⟩⟩ := h.own
  · rcases h1 with h1 | h1 <;> simp at h1
  · simp only [Value.slice.injEq, Option.some.injEq, Addr.mk.injEq, and_true] at e
    obtain ⟨rfl, -, rfl⟩ := e
    have hms : m * s ≤ n * s := Nat.mul_le_mul_right _ hm
    refine ⟨⟨by rw [List.length_take, hl]; omega, .inr ⟨g, cap, cur, rfl, hge, hb, by omega, h2, h3, ?_⟩⟩, h.inF⟩
    rw [← h4, List.take_take, Nat.min_eq_left hms]
theorem RowOf.cap {Fr : Nat → Prop} {e s n cap : Nat} {L : List Value} (h : RowOf w Fr e s (.slice (some ⟨g, 0, none⟩) n cap) n L) : n ≤ cap ∧ cap ≤ maxLen := by
  obtain ⟨hl, ⟨h1, _⟩ | ⟨g', cap', cur, e, hge, hb, h1, h2, h3, h4⟩⟩ := h.own
  · rcases h1 with h1 | h1 <;> simp at h1
  · simp only [Value.slice.injEq, Option.some.injEq, Addr.mk.injEq, and_true] at e
    obtain ⟨rfl, -, rfl⟩ := e
    exact ⟨h1, h2⟩
end
/-- A cell of a row's element. -/
theorem RowOf.cellAt {α : Type} {f : α → List Value} {L : List α} {w : World} {Fr : Nat → Prop} {e s : Nat} {v : Value} (h : RowOf w Fr e s v L.length (L.flatMap f)) (hs : ∀ x ∈ L, (f x).length = s) {i : Nat} {x : α} (hi : L[i]? = some x) :
    ∃ g cap, v = .slice (some ⟨g, 0, none⟩) L.length cap ∧ Fr g ∧ ∀ c u, (f x)[c]? = some u → w.cell? ⟨g, i * s + c, none⟩ = some u := by
  obtain ⟨ao, cap, e1, h2⟩ := h.shape
  have hl : i < L.length := (List.getElem?_eq_some_iff.1 hi).1
  obtain ⟨g, rfl, h3, -, h5⟩ := h2 (by omega)
  exact ⟨g, cap, e1, h3, fun c u hu => h5 _ _ (flat_at L hs i x c u hi hu)⟩
theorem flat_len' {α : Type} {f : α → List Value} {s : Nat} : ∀ (L : List α), (∀ x ∈ L, (f x).length = s) → (L.flatMap f).length = L.length * s
  | [], _ => by simp
  | x :: L, h => by
    rw [List.flatMap_cons, List.length_append, h x List.mem_cons_self, flat_len' L (fun y hy => h y (List.mem_cons_of_mem _ hy)), List.length_cons, Nat.add_mul]; omega
theorem flat_setc {α : Type} {f : α → List Value} {s : Nat} {u : Value} {y : α} : ∀ (L : List α) (i c : Nat) (x : α), (∀ x ∈ L, (f x).length = s) → L[i]? = some x → c < s → f y = (f x).set c u → (L.flatMap f).set (i * s + c) u = (L.set i y).flatMap f
  | [], i, c, x, _, h, _, _ => by simp at h
  | z :: L, i, c, x, hl, h, hc, hy => by
    have hz := hl z List.mem_cons_self
    cases i with
    | zero =>
      obtain rfl : z = x := by simpa using h
      rw [List.flatMap_cons, List.set_cons_zero, List.flatMap_cons, Nat.zero_mul, Nat.zero_add, List.set_append_left _ _ (by omega), hy]
    | succ i =>
      have h' : L[i]? = some x := by simpa using h
      rw [List.flatMap_cons, List.set_cons_succ, List.flatMap_cons, List.set_append_right _ _ (by rw [hz, Nat.add_mul]; omega), hz, show (i + 1) * s + c - s = i * s + c by rw [Nat.add_mul]; omega,
        flat_setc L i c x (fun w hw => hl w (List.mem_cons_of_mem _ hw)) h' hc hy]
/-- A cell of a row's element is stored into. -/
theorem RowOf.setAt {α : Type} {f : α → List Value} {L : List α} {w : World} {Fr : Nat → Prop} {e s g cap i c : Nat} {u : Value} {x y : α} (h : RowOf w Fr e s (.slice (some ⟨g, 0, none⟩) L.length cap) L.length (L.flatMap f)) (hs : ∀ x ∈ L, (f x).length = s) (hi : L[i]? = some x) (hc : c < s) (hy : f y = (f x).set c u) :
    RowOf (w.setCell ⟨g, i * s + c, none⟩ u) Fr e s (.slice (some ⟨g, 0, none⟩) (L.set i y).length cap) (L.set i y).length ((L.set i y).flatMap f) := by
  have h1 := h.set (i * s + c) u
  rw [flat_setc L i c x hs hi hc hy] at h1
  rw [List.length_set]
  exact h1
/-- Where a row's element can be stored into. -/
theorem RowOf.spot {α : Type} {f : α → List Value} {L : List α} {w : World} {Fr : Nat → Prop} {e s g cap i c : Nat} {x : α} (h : RowOf w Fr e s (.slice (some ⟨g, 0, none⟩) L.length cap) L.length (L.flatMap f)) (hs : ∀ x ∈ L, (f x).length = s) (hi : L[i]? = some x) (hc : c < s) :
    (∃ u, w.cell? ⟨g, i * s + c, none⟩ = some u) ∧ w.frozen? ⟨g, i * s + c, none⟩ = false := by
  obtain ⟨M, hM, hl⟩ := h.blk
  have hil : i < L.length := (List.getElem?_eq_some_iff.1 hi).1
  rw [flat_len' L hs] at hl
  have h1 : i * s + c < M.length := by
    have : (i + 1) * s ≤ L.length * s := Nat.mul_le_mul_right _ (by omega)
    rw [Nat.add_mul] at this
    omega
  exact ⟨⟨_, by rw [hM.cell]; exact List.getElem?_eq_getElem h1⟩, hM.free _⟩
theorem own_sl {w : World} {base e s n : Nat} {v : Value} {xs : List Value} (h : w.ownsRow base e s v n xs) : ∃ a c, v = .slice a n c := by
  obtain ⟨-, ⟨rfl, rfl⟩ | ⟨g', c', cu, rfl, -⟩⟩ := h
  · exact ⟨none, 0, rfl⟩
  · exact ⟨_, _, rfl⟩
/-- The last one is put at a place, and the row cut short. -/
def rem {α : Type} (Z : List α) (a : Nat) (x : α) : List α := (Z.set a x).take (Z.length - 1)
theorem rem_perm {α : Type} {Z : List α} {a : Nat} {y x : α} (ha : Z[a]? = some y) (hx : Z[Z.length - 1]? = some x) : Z.Perm (y :: rem Z a x) := by
  have hl : a < Z.length := (List.getElem?_eq_some_iff.1 ha).1
  have h0 : Z ≠ [] := fun e => by rw [e] at hl; simp at hl
  obtain ⟨Y, z, rfl⟩ : ∃ Y z, Z = Y ++ [z] := ⟨Z.dropLast, Z.getLast h0, (List.dropLast_concat_getLast h0).symm⟩
  rw [List.length_append, List.length_singleton] at hx hl
  rw [show Y.length + 1 - 1 = Y.length by omega, List.getElem?_append_right (Nat.le_refl _), Nat.sub_self] at hx
  obtain rfl : z = x := by simpa using hx
  unfold rem
  rw [List.length_append, List.length_singleton, show Y.length + 1 - 1 = Y.length by omega]
  by_cases h1 : a < Y.length
  · rw [List.set_append_left _ _ h1, List.take_left' (by rw [List.length_set])]
    rw [List.getElem?_append_left h1] at ha
    have e1 : Y = Y.take a ++ y :: Y.drop (a + 1) := by
      have h3 := List.getElem?_eq_some_iff.1 ha
      rw [← h3.2, List.getElem_cons_drop, List.take_append_drop]
    have e2 : Y.set a z = Y.take a ++ z :: Y.drop (a + 1) := by rw [List.set_eq_take_append_cons_drop, if_pos h1]
    rw [e2]
    conv => lhs; rw [e1]
    refine (List.perm_append_comm (l₁ := Y.take a ++ y :: Y.drop (a + 1)) (l₂ := [z])).trans ?_
    refine (List.Perm.cons z List.perm_middle).trans ?_
    exact (List.Perm.swap y z _).trans (List.Perm.cons y List.perm_middle.symm)
  · have h2 : a = Y.length := by omega
    subst h2
    rw [List.getElem?_append_right (Nat.le_refl _), Nat.sub_self] at ha
    obtain rfl : z = y := by simpa using ha
    rw [List.set_append_right _ _ (Nat.le_refl _), Nat.sub_self, List.take_left' rfl]
    exact List.perm_append_comm
theorem rem_len {α : Type} {Z : List α} {a : Nat} {x : α} : (rem Z a x).length = Z.length - 1 := by unfold rem; rw [List.length_take, List.length_set]; omega
theorem rem_map {α β : Type} (f : α → β) (Z : List α) (a : Nat) (x : α) : (rem Z a x).map f = rem (Z.map f) a (f x) := by unfold rem; rw [List.map_take, List.map_set, List.length_map]
theorem rem_mem {α : Type} {Z : List α} {a : Nat} {x z : α} (hx : x ∈ Z) (h : z ∈ rem Z a x) : z ∈ Z := by
  unfold rem at h
  rcases List.mem_or_eq_of_mem_set (List.mem_of_mem_take h) with h | h
  · exact h
  · rw [h]; exact hx
end Go.Proofs.YtmlladpmecclbaaDoor
/- General: a slice from a place on. -/
namespace Go.Proofs.YtmlladpmecclbaaDoor
open Go.RowKit

theorem cut_from {T e : TypeId} {sz : Nat} (hu : Tryd.prog.underlying T = some (.slice (Tryd.prog.elem T))) (he : Tryd.prog.elem T = e) (hs : ∀ w0 : World, (sizeOf e).run Tryd.prog w0 = .ok sz w0) {b n cap k : Nat} (hk : k ≤ n) (hc : n ≤ cap) :
    ∃ A c, (∀ w0 : World, (Instr.sliceAt T (.slice (some ⟨b, 0, none⟩) n cap) (some (.int .i64 (k : Int))) none none).run Tryd.prog w0 = .ok (.slice (some A) (n - k) c) w0) ∧ (k < n → A = ⟨b, k * sz, none⟩) ∧ c = cap - k := by
  refine ⟨if cap = k then ⟨b, 0, none⟩ else ⟨b, k * sz, none⟩, cap - k, fun w0 => ?_, fun h => by rw [if_neg (by omega)], rfl⟩
  rw [run_sliceAt_slice _ _ _ _ _ _ hu, run_slice_l w0 _ _ _ _ hu .i64 (k : Int) (by omega) (by omega), he, hs]
  by_cases hcn : cap = k
  · simp [Result.andThen, sliced, hcn]
  · by_cases h0 : k * sz = 0
    · simp [Result.andThen, sliced, hcn, Addr.add, h0]
    · simp [Result.andThen, sliced, hcn, Addr.add, h0]
end Go.Proofs.YtmlladpmecclbaaDoor
/- General: numbers behind others, numbers cut; the reference's SameInts. -/
namespace Go.Proofs.YtmlladpmecclbaaDoor
open Go.RowKit

/-- Numbers are put behind an own row of some. -/
theorem exec_appendN {w : World} {o : Oper} {ρ : Operand → Value} {v u : Value} {n : Nat} {xs : List Value} {ks : List Int} {x y : Operand} (ho : o.op = .call { callee := .builtin .append, args := #[x, y], argTypes := #[23, 23] }) (hx : ρ x = v) (hv : w.ownsRow 0 3 1 v n xs) (hy : ρ y = u) (hu : Nums w u ks) (hn : n + ks.length ≤ 1000000) :
    ∃ v' w', (execOp ρ o).run Tryd.prog w = .ok (.value v') w' ∧ Appd w w' 3 1 v v' (n + ks.length) (xs ++ numv ks) := by
  have key : ∀ (ad : Addr) (c : Nat), u = .slice (some ad) ks.length c → (∀ j z, (numv ks)[j]? = some z → w.cell? (ad.add j) = some z) → ∃ v' w', (execOp ρ o).run Tryd.prog w = .ok (.value v') w' ∧ Appd w w' 3 1 v v' (n + ks.length) (xs ++ numv ks) := fun ad c e hc =>
    exec_append (news := numv ks) Tryd.underlying23 infNum rfl (by decide) ho hx hv (hy.trans e) (by simp [numv]) hc (fun z hz => by obtain ⟨k, -, rfl⟩ := List.mem_map.1 hz; rfl) hn (by decide)
  obtain ⟨h1, h2, ⟨rfl, e | ⟨a, cap, e⟩⟩ | ⟨h0, b, off, cap, e, hcap, hb, hc⟩⟩ := hu
  · obtain ⟨i0, hi, hz0, hz1, hz2⟩ := info_parts infNum
    have hrun := run_append_owned_none (P := Tryd.prog) w 0 23 o.type 3 i0 1 Tryd.underlying23 hi v n xs hv
    refine ⟨v, w, ?_, ⟨by simpa [numv] using hv, But.refl _ _, .inl rfl, fun k hk => ?_⟩⟩
    · unfold execOp
      simp only [ho, resolve, invoke, builtin, Sem.run_bind, Sem.run_pure, Result.andThen_ok, List.map_toArray, List.map_cons, List.map_nil, hx, hy, e, hrun]
    · obtain ⟨-, ⟨rfl, -⟩ | ⟨g, c, cu, rfl, -, hb, -⟩⟩ := hv
      · cases hk
      · cases hk; exact lt_of_block hb
  · exact key a cap e (fun j z hz => by simp [numv] at hz)
  · refine key ⟨b, off, none⟩ cap e (fun j z hz => ?_)
    have hj : j < ks.length := by
      rcases Nat.lt_or_ge j ks.length with h | h
      · exact h
      · rw [List.getElem?_eq_none (by simpa [numv] using h)] at hz; cases hz
    rw [addr_add, hc j hj, ← hz]
    simp [numv, hj]
/-- An own row of numbers, cut in two. -/
theorem nums_cut {w : World} {v : Value} {ks : List Int} (h : w.ownsRow 0 3 1 v ks.length (numv ks)) (hi : ∀ x ∈ ks, -9223372036854775808 ≤ x ∧ x ≤ 9223372036854775807) (hl : ks.length ≤ 1000000) {a : Nat} (ha : a ≤ ks.length) :
    ∃ lo hi', (∀ w0 : World, (Instr.sliceAt 23 v none (some (.int .i64 (a : Int))) none).run Tryd.prog w0 = .ok lo w0) ∧ (∀ w0 : World, (Instr.sliceAt 23 v (some (.int .i64 (a : Int))) none none).run Tryd.prog w0 = .ok hi' w0) ∧ Nums w lo (ks.take a) ∧ Nums w hi' (ks.drop a) := by
  have hcells := h
  obtain ⟨h1, ⟨rfl, h0⟩ | ⟨g, cap, cur, rfl, hg, hh, hcap, hm, r⟩⟩ := h
  · have hk : ks = [] := List.eq_nil_of_length_eq_zero h0
    subst hk
    obtain rfl : a = 0 := by simpa using ha
    refine ⟨.slice none 0 0, .slice none 0 0, fun w0 => by kernel_rfl, fun w0 => by kernel_rfl, ⟨(fun x hx => by simp at hx), by simp, .inl ⟨rfl, .inl rfl⟩⟩, ⟨(fun x hx => by simp at hx), by simp, .inl ⟨rfl, .inl rfl⟩⟩⟩
  · obtain ⟨A, c, hcut, hA, hcc⟩ := cut_from (T := 23) (e := 3) (sz := 1) i64slice (by kernel_rfl) (fun w0 => by kernel_rfl) (b := g) (n := ks.length) (cap := cap) (k := a) ha hcap
    have hcell : ∀ i, i < ks.length → w.cell? ⟨g, i, none⟩ = some (.int .i64 (ks.getD i 0)) := fun i hi => by
      have h2 := hcells.cells (g := g) rfl i (.int .i64 (ks.getD i 0)) (by simp [numv, hi])
      have e : (⟨g, 0, none⟩ : Addr).add i = ⟨g, 0 + i, none⟩ := addr_add g 0 i
      rw [e, Nat.zero_add] at h2
      exact h2
    refine ⟨.slice (some ⟨g, 0, none⟩) a cap, _, fun w0 => ?_, hcut, ⟨fun x hx => hi x (List.mem_of_mem_take hx), by rw [List.length_take]; omega, ?_⟩, ⟨fun x hx => hi x (List.mem_of_mem_drop hx), by rw [List.length_drop]; omega, ?_⟩⟩
    · rw [run_sliceAt_slice _ _ _ _ _ _ i64slice, run_slice_h w0 _ _ _ _ i64slice .i64 (a : Int) (by omega) (by omega), show Tryd.prog.elem 23 = 3 by kernel_rfl, show (sizeOf 3).run Tryd.prog w0 = .ok 1 w0 by kernel_rfl]
      simp [sliced, Result.andThen, Addr.add]
    · by_cases h0 : a = 0
      · subst h0
        exact .inl ⟨by simp, .inr ⟨_, _, rfl⟩⟩
      · refine .inr ⟨by rw [List.length_take]; omega, g, 0, cap, by rw [List.length_take, Nat.min_eq_left ha], by rw [List.length_take]; omega, lt_of_block hh, fun i hi => ?_⟩
        rw [List.length_take] at hi
        rw [Nat.zero_add, hcell i (by omega), List.getD_eq_getElem?_getD, List.getD_eq_getElem?_getD, List.getElem?_take, if_pos (by omega)]
    · by_cases h0 : a < ks.length
      · rw [hA h0]
        refine .inr ⟨by rw [List.length_drop]; omega, g, a * 1, c, by rw [List.length_drop], ?_, lt_of_block hh, fun i hi => ?_⟩
        · rw [List.length_drop]; omega
        · rw [List.length_drop] at hi
          rw [Nat.mul_one, hcell (a + i) (by omega), List.getD_eq_getElem?_getD, List.getD_eq_getElem?_getD, List.getElem?_drop]
      · rw [show ks.length - a = 0 by omega]
        exact .inl ⟨by rw [List.drop_eq_nil_iff]; omega, .inr ⟨_, _, rfl⟩⟩
end Go.Proofs.YtmlladpmecclbaaDoor
/- A map in memory that holds what is on a list: look-ups, updates, deletes, ranges. -/
namespace Go.Proofs.YtmlladpmecclbaaDoor
open Go.RowKit Go.Maps

/-- The map in block b has, for each x of the list, the key kv x with the element vv x; nothing else. -/
def MapOf {α : Type} (kt : TypeId) (w : World) (b : Nat) (kv vv : α → Value) (l : List α) : Prop :=
  ∃ M, Mq Tryd.prog kt w b M ∧ (∀ p ∈ M, ∃ x ∈ l, p = (kv x, vv x)) ∧ ∀ x ∈ l, (kv x, vv x) ∈ M
section
variable {α : Type} {kt et t : TypeId} {w w' : World} {b : Nat} {kv vv vv' : α → Value} {l l' : List α} {R : Nat → Prop}
theorem MapOf.lt (h : MapOf kt w b kv vv l) : b < w.heap.size := by obtain ⟨M, h1, -⟩ := h; exact h1.lt
theorem MapOf.but (h : MapOf kt w b kv vv l) (k : But R w w') (hr : ¬ R b) : MapOf kt w' b kv vv l := by
  obtain ⟨M, h1, h2, h3⟩ := h
  exact ⟨M, h1.but k hr, h2, h3⟩
theorem MapOf.grow (h : MapOf kt w b kv vv l) (k : Grow w w') : MapOf kt w' b kv vv l := h.but k (fun h => h)
theorem MapOf.mem (h : MapOf kt w b kv vv l) (hm : ∀ x, x ∈ l ↔ x ∈ l') : MapOf kt w b kv vv l' := by
  obtain ⟨M, h1, h2, h3⟩ := h
  refine ⟨M, h1, fun p hp => ?_, fun x hx => h3 x ((hm x).2 hx)⟩
  obtain ⟨x, hx, e⟩ := h2 p hp
  exact ⟨x, (hm x).1 hx, e⟩
theorem MapOf.congr (h : MapOf kt w b kv vv l) (hv : ∀ x ∈ l, vv x = vv' x) : MapOf kt w b kv vv' l := by
  obtain ⟨M, h1, h2, h3⟩ := h
  refine ⟨M, h1, fun p hp => ?_, fun x hx => ?_⟩
  · obtain ⟨x, hx, e⟩ := h2 p hp
    exact ⟨x, hx, by rw [← hv x hx]; exact e⟩
  · rw [← hv x hx]; exact h3 x hx
theorem MapOf.new (g : Nat) (h : w.heap.size = g) (kv vv : α → Value) : MapOf kt (w.alloc (.map #[] 0)) g kv vv [] :=
  ⟨[], Mq.new g h, fun _ hp => absurd hp List.not_mem_nil, fun _ hx => absurd hx List.not_mem_nil⟩
theorem MapOf.look (K : Keyed Tryd.prog kt) (ht : Tryd.prog.underlying t = some (.map kt et)) {z : Value} (hz : ∀ w, (zeroValue et).run Tryd.prog w = .ok z w) (h : MapOf kt w b kv vv l) {key : Value} {lt : Lit} (hkey : keyOf Tryd.prog kt key = some lt) (c : Bool) :
    (∀ x ∈ l, kv x = key → (Instr.lookup t (.map (some b)) key c).run Tryd.prog w = .ok (if c then .tuple #[vv x, .bool true] else vv x) w) ∧ ((∀ x ∈ l, kv x ≠ key) → (Instr.lookup t (.map (some b)) key c).run Tryd.prog w = .ok (if c then .tuple #[z, .bool false] else z) w) := by
  obtain ⟨M, h1, h2, h3⟩ := h
  have hl := h1.look (t := t) (et := et) K ht (hz w) hkey c
  refine ⟨fun x hx e => ?_, fun hn => hl.2 (fun p hp e => ?_)⟩
  · refine hl.1 _ ?_
    rw [← e]; exact h3 x hx
  · obtain ⟨x, hx, e2⟩ := h2 p hp
    exact hn x hx (by rw [← e, e2])
theorem MapOf.put (K : Keyed Tryd.prog kt) (ht : Tryd.prog.underlying t = some (.map kt et)) (h : MapOf kt w b kv vv l) (x : α) {lt : Lit} (hkey : keyOf Tryd.prog kt (kv x) = some lt) (hx : ∀ y ∈ l, kv y ≠ kv x) :
    ∃ w', (Instr.mapUpdate t (.map (some b)) (kv x) (vv x)).run Tryd.prog w = .ok () w' ∧ MapOf kt w' b kv vv (l ++ [x]) ∧ But (· = b) w w' ∧ w'.heap.size = w.heap.size := by
  obtain ⟨M, h1, h2, h3⟩ := h
  obtain ⟨w', M', hr, hM, hb, hs, hin, hot⟩ := h1.put (t := t) (et := et) (v := vv x) K ht hkey
  refine ⟨w', hr, ⟨M', hM, fun p hp => ?_, fun y hy => ?_⟩, hb, hs⟩
  · by_cases hk : p.1 = kv x
    · have hpv : p.2 = vv x := hM.uniq (k := kv x) (by rw [← hk]; exact hp) hin
      exact ⟨x, List.mem_append_right _ List.mem_cons_self, by rw [← hk, ← hpv]⟩
    · obtain ⟨y, hy, e⟩ := h2 p ((hot p.1 p.2 hk).1 hp)
      exact ⟨y, List.mem_append_left _ hy, e⟩
  · rcases List.mem_append.1 hy with hy | hy
    · exact (hot _ _ (hx y hy)).2 (h3 y hy)
    · rw [show y = x by simpa using hy]; exact hin
theorem MapOf.del (K : Keyed Tryd.prog kt) (ht : Tryd.prog.underlying t = some (.map kt et)) (h : MapOf kt w b kv vv l) {key : Value} {lt : Lit} (hkey : keyOf Tryd.prog kt key = some lt) (hl : ∀ x, x ∈ l' ↔ x ∈ l ∧ kv x ≠ key) (ty : TypeId) :
    ∃ w', (Builtin.delete_ #[t, kt] ty #[.map (some b), key]).run Tryd.prog w = .ok (.tuple #[]) w' ∧ MapOf kt w' b kv vv l' ∧ But (· = b) w w' ∧ w'.heap.size = w.heap.size := by
  obtain ⟨M, h1, h2, h3⟩ := h
  obtain ⟨w', M', hr, hM, hb, hs, hot⟩ := h1.del (t := t) (et := et) K ht hkey ty
  refine ⟨w', hr, ⟨M', hM, fun p hp => ?_, fun y hy => ?_⟩, hb, hs⟩
  · obtain ⟨h6, h7⟩ := (hot p.1 p.2).1 hp
    obtain ⟨x, hx, e⟩ := h2 p h6
    exact ⟨x, (hl x).2 ⟨hx, fun e2 => h7 (by rw [e]; exact e2)⟩, e⟩
  · obtain ⟨h6, h7⟩ := (hl y).1 hy
    exact (hot _ _).2 ⟨h3 y h6, h7⟩
theorem nodup_len {β : Type} : ∀ {l m : List β}, l.Nodup → (∀ x ∈ l, x ∈ m) → l.length ≤ m.length := by
  intro l
  induction l with
  | nil => intro m _ _; exact Nat.zero_le _
  | cons x l ih =>
    intro m hn hm
    rw [List.nodup_cons] at hn
    have hx := hm x List.mem_cons_self
    obtain ⟨m1, m2, rfl⟩ := List.append_of_mem hx
    have := ih (m := m1 ++ m2) hn.2 (fun y hy => by
      have h1 := hm y (List.mem_cons_of_mem _ hy)
      rcases List.mem_append.1 h1 with h2 | h2
      · exact List.mem_append_left _ h2
      · rcases List.mem_cons.1 h2 with h3 | h3
        · exact absurd (by rw [← h3]; exact hy) hn.1
        · exact List.mem_append_right _ h3)
    rw [List.length_append] at this ⊢
    rw [List.length_cons, List.length_cons]
    omega
theorem MapOf.keys {M : List (Value × Value)} (h1 : Mq Tryd.prog kt w b M) : (M.map (·.1)).Nodup := List.pairwise_map.2 h1.apart
theorem MapOf.size {M : List (Value × Value)} (h1 : Mq Tryd.prog kt w b M) (h2 : ∀ p ∈ M, ∃ x ∈ l, p = (kv x, vv x)) (h3 : ∀ x ∈ l, (kv x, vv x) ∈ M) (hn : (l.map kv).Nodup) : M.length = l.length := by
  have a1 := nodup_len (m := l.map kv) (MapOf.keys h1) (fun x hx => by
    obtain ⟨p, hp, rfl⟩ := List.mem_map.1 hx
    obtain ⟨y, hy, e⟩ := h2 p hp
    exact List.mem_map.2 ⟨y, hy, by rw [e]⟩)
  have a2 := nodup_len (m := M.map (·.1)) hn (fun x hx => by
    obtain ⟨y, hy, rfl⟩ := List.mem_map.1 hx
    exact List.mem_map.2 ⟨_, h3 y hy, rfl⟩)
  rw [List.length_map, List.length_map] at a1 a2
  omega
theorem MapOf.len (ht : Tryd.prog.underlying t = some (.map kt et)) (h : MapOf kt w b kv vv l) (hn : (l.map kv).Nodup) (ty : TypeId) : (Builtin.len_ #[t] ty #[.map (some b)]).run Tryd.prog w = .ok (.int .i64 (l.length : Int)) w := by
  obtain ⟨M, h1, h2, h3⟩ := h
  rw [← MapOf.size h1 h2 h3 hn]
  exact h1.len ht ty
theorem nodup_map {β : Type} {f : α → β} {l : List α} (hf : ∀ x ∈ l, ∀ y ∈ l, f x = f y → x = y) (h : l.Nodup) : (l.map f).Nodup :=
  List.pairwise_map.2 (h.imp_of_mem (fun hx hy hne e => hne (hf _ hx _ hy e)))
/-- A map that is ranged over: these of the list are still to come. -/
structure Ranged {α : Type} (kt : TypeId) (w : World) (r b : Nat) (kv vv : α → Value) (l lf : List α) : Prop where
  ex : ∃ M L, Mq Tryd.prog kt w b M ∧ Rg w r b M L ∧ (∀ p ∈ M, ∃ x ∈ l, p = (kv x, vv x)) ∧ (∀ x ∈ l, (kv x, vv x) ∈ M) ∧ L.Perm (lf.map (fun x => (kv x, vv x)))
  sub : ∀ x ∈ lf, x ∈ l
theorem Ranged.map {r : Nat} {lf : List α} (h : Ranged kt w r b kv vv l lf) : MapOf kt w b kv vv l := by
  obtain ⟨M, L, h1, -, h2, h3, -⟩ := h.ex
  exact ⟨M, h1, h2, h3⟩
theorem Ranged.lt {r : Nat} {lf : List α} (h : Ranged kt w r b kv vv l lf) : r < w.heap.size ∧ b < w.heap.size ∧ r ≠ b := by
  obtain ⟨M, L, -, h1, -⟩ := h.ex
  exact ⟨h1.lt.1, h1.lt.2, h1.ne⟩
theorem Ranged.but {r : Nat} {lf : List α} (h : Ranged kt w r b kv vv l lf) (k : But R w w') (h1 : ¬ R r) (h2 : ¬ R b) : Ranged kt w' r b kv vv l lf := by
  obtain ⟨M, L, g1, g2, g3⟩ := h.ex
  exact ⟨⟨M, L, g1.but k h2, g2.but k h1 h2, g3⟩, h.sub⟩
theorem Ranged.grow {r : Nat} {lf : List α} (h : Ranged kt w r b kv vv l lf) (k : Grow w w') : Ranged kt w' r b kv vv l lf := h.but k (fun h => h) (fun h => h)
theorem Ranged.left {r : Nat} {lf : List α} (h : Ranged kt w r b kv vv l lf) : leftN w r b = lf.length := by
  obtain ⟨M, L, -, h1, -, -, h2⟩ := h.ex
  rw [h1.left, h2.length_eq, List.length_map]
theorem MapOf.range (ht : Tryd.prog.underlying t = some (.map kt et)) (h : MapOf kt w b kv vv l) (hn : (l.map kv).Nodup) : ∃ w', (Instr.range t (.map (some b))).run Tryd.prog w = .ok (.pointer (some ⟨w.heap.size, 0, none⟩)) w' ∧ Grow w w' ∧ w'.heap.size = w.heap.size + 1 ∧ Ranged kt w' w.heap.size b kv vv l l := by
  obtain ⟨M, h1, h2, h3⟩ := h
  obtain ⟨w', hr, hb, hs, hg⟩ := h1.range (t := t) (et := et) ht
  refine ⟨w', hr, hb, hs, ⟨M, M, h1.but hb (fun h => h), hg, h2, h3, ?_⟩, fun x hx => hx⟩
  refine (List.perm_ext_iff_of_nodup ?_ ?_).2 (fun p => ⟨fun hp => ?_, fun hp => ?_⟩)
  · exact h1.apart.imp (fun h e => h (by rw [e]))
  · have : ((l.map fun x => (kv x, vv x)).map (·.1)).Nodup := by rw [List.map_map]; exact hn
    exact (List.pairwise_map.1 this).imp (fun h e => h (by rw [e]))
  · obtain ⟨x, hx, e⟩ := h2 p hp
    exact List.mem_map.2 ⟨x, hx, e.symm⟩
  · obtain ⟨x, hx, rfl⟩ := List.mem_map.1 hp
    exact h3 x hx
/-- The next one, whichever it is. -/
theorem Ranged.next {r : Nat} {lf : List α} (h : Ranged kt w r b kv vv l lf) (ty : TypeId) :
    (lf = [] ∧ (Instr.next (.pointer (some ⟨r, 0, none⟩)) false ty).run Tryd.prog w = .ok (.tuple #[.bool false]) w) ∨
    ∃ x lf' w', x ∈ l ∧ lf.Perm (x :: lf') ∧ (Instr.next (.pointer (some ⟨r, 0, none⟩)) false ty).run Tryd.prog w = .ok (.tuple #[.bool true, kv x, vv x]) w' ∧ But (· = r) w w' ∧ w'.heap.size = w.heap.size ∧ Ranged kt w' r b kv vv l lf' ∧ (Instr.entry (.pointer (some ⟨r, 0, none⟩))).run Tryd.prog w' = .ok (.tuple #[kv x, vv x]) w' := by
  obtain ⟨M, L, h1, h2, h3, h4, h5⟩ := h.ex
  have hne := h2.ne
  rcases h2.next (P := Tryd.prog) ty with ⟨rfl, hr⟩ | ⟨p, L', w', hp, hperm, hr, hb, hs, hg, hen⟩
  · left
    have := h5.length_eq
    rw [List.length_map] at this
    exact ⟨List.eq_nil_of_length_eq_zero (by simpa using this.symm), hr⟩
  · right
    have hpl : p ∈ lf.map (fun x => (kv x, vv x)) := h5.mem_iff.1 (hperm.mem_iff.2 List.mem_cons_self)
    obtain ⟨x, hx, rfl⟩ := List.mem_map.1 hpl
    have hxl := h.sub x hx
    have hsub := h.sub
    obtain ⟨l1, l2, rfl⟩ := List.append_of_mem hx
    have hpm : (l1 ++ x :: l2).Perm (x :: (l1 ++ l2)) := List.perm_middle
    have h6 : L'.Perm ((l1 ++ l2).map (fun x => (kv x, vv x))) := ((hperm.symm.trans h5).trans (hpm.map _)).cons_inv
    exact ⟨x, l1 ++ l2, w', hxl, hpm, hr, hb, hs, ⟨⟨M, L', h1.but hb (fun e => hne e.symm), hg, h3, h4, h6⟩, fun y hy => hsub y (hpm.mem_iff.2 (List.mem_cons_of_mem _ hy))⟩, hen⟩
/-- One that was handed out is taken out. -/
theorem Ranged.del {r : Nat} {lf : List α} (K : Keyed Tryd.prog kt) (ht : Tryd.prog.underlying t = some (.map kt et)) (h : Ranged kt w r b kv vv l lf) {x : α} (hx : x ∈ l) {lt : Lit} (hkey : keyOf Tryd.prog kt (kv x) = some lt) (hout : ∀ y ∈ lf, kv y ≠ kv x) (hl : ∀ y, y ∈ l' ↔ y ∈ l ∧ kv y ≠ kv x) (ty : TypeId) :
    ∃ w', (Builtin.delete_ #[t, kt] ty #[.map (some b), kv x]).run Tryd.prog w = .ok (.tuple #[]) w' ∧ Ranged kt w' r b kv vv l' lf ∧ But (· = b) w w' ∧ w'.heap.size = w.heap.size := by
  obtain ⟨M, L, h1, h2, h3, h4, h5⟩ := h.ex
  obtain ⟨w', M', hr, hM, hg, hb, hs, hot⟩ := Rg.del (t := t) (et := et) K ht h1 h2 hkey (h4 x hx) (fun u hu => by
    obtain ⟨y, hy, e⟩ := List.mem_map.1 (h5.mem_iff.1 hu)
    exact hout y hy (Prod.mk.inj e).1) ty
  refine ⟨w', hr, ⟨⟨M', L, hM, hg, fun p hp => ?_, fun y hy => ?_, h5⟩, fun y hy => (hl y).2 ⟨h.sub y hy, hout y hy⟩⟩, hb, hs⟩
  · obtain ⟨h6, h7⟩ := (hot p.1 p.2).1 hp
    obtain ⟨y, hy, e⟩ := h3 p h6
    exact ⟨y, (hl y).2 ⟨hy, fun e2 => h7 (by rw [e]; exact e2)⟩, e⟩
  · obtain ⟨h6, h7⟩ := (hl y).1 hy
    exact (hot _ _).2 ⟨h4 y h6, h7⟩
end
end Go.Proofs.YtmlladpmecclbaaDoor
/- plan: levels, paths, what a Commit writes, as numbers and lists; no code in it. -/
namespace Go.Proofs.YtmlladpmecclbaaDoor
open Go.RowKit

structure Pn where
  pages : Int
  budget : Int
  counters : Int
  levels : List Int
  nodes : Int
  head : Int
  heads : Int
  journal : Int
  spill : Int
  total : Int
def pcells (p : Pn) (v : Value) : List Value := [.int .i64 p.pages, .int .i64 p.budget, .int .i64 p.counters, v, .int .i64 p.nodes, .int .i64 p.head, .int .i64 p.heads, .int .i64 p.journal, .int .i64 p.spill, .int .i64 p.total]
abbrev pval (p : Pn) (v : Value) : Value := .agg (pcells p v).toArray
/-- How many parts of a size things begin. -/
def bg (n s : Nat) : Nat := (n + s - 1) / s
def lvN : Nat → Nat → List Nat
  | 0, m => [m]
  | k + 1, m => if m ≤ 1 then [m] else m :: lvN k (bg m 8)
def lvs (c : Nat) : List Nat := lvN 3 (bg c 8)
def toI (l : List Nat) : List Int := l.map (fun j => ((j : Nat) : Int))
theorem toI_len (l : List Nat) : (toI l).length = l.length := List.length_map ..
theorem lvN_one {k m : Nat} (h : m ≤ 1) : lvN k m = [m] := by
  cases k with
  | zero => rfl
  | succ k => unfold lvN; rw [if_pos h]
theorem lvN_more {k m : Nat} (h : ¬ m ≤ 1) : lvN (k + 1) m = m :: lvN k (bg m 8) := by
  rw [lvN, if_neg h]
theorem bg8 {m k : Nat} (h : m ≤ 8 ^ (k + 1)) : bg m 8 ≤ 8 ^ k := by
  unfold bg
  have : 8 ^ (k + 1) = 8 * 8 ^ k := by rw [Nat.pow_succ, Nat.mul_comm]
  omega
theorem bg_pos {m : Nat} (h : 1 ≤ m) : 1 ≤ bg m 8 := by unfold bg; omega
/-- The plan of so many pages and a budget. -/
def plan (n b : Nat) : Pn :=
  let c := bg n 16
  let nd := (lvs c).sum
  let hd := n + c + nd
  let hs := bg (12 + 4 * b) 256
  ⟨n, b, c, toI (lvs c), nd, hd, hs, (hd + hs : Nat), (hd + hs + b : Nat), (hd + hs + b + b : Nat)⟩
/-- Levels are of one of three shapes. -/
theorem lvs_shape {c : Nat} (h1 : 1 ≤ c) (h2 : c ≤ 256) : (c ≤ 8 ∧ lvs c = [1]) ∨ (8 < c ∧ c ≤ 64 ∧ lvs c = [bg c 8, 1]) ∨ (64 < c ∧ lvs c = [bg c 8, bg (bg c 8) 8, 1]) := by
  unfold lvs
  by_cases a : bg c 8 ≤ 1
  · left
    refine ⟨by unfold bg at a; omega, ?_⟩
    rw [lvN_one a, show bg c 8 = 1 by have := bg_pos h1; omega]
  · right
    rw [lvN_more a]
    by_cases b : bg (bg c 8) 8 ≤ 1
    · left
      refine ⟨by unfold bg at a; omega, by unfold bg at b; omega, ?_⟩
      rw [lvN_one b, show bg (bg c 8) 8 = 1 by have := bg_pos (bg_pos h1); omega]
    · right
      rw [lvN_more b]
      have d : bg (bg (bg c 8) 8) 8 = 1 := by unfold bg; omega
      refine ⟨by unfold bg at b; omega, ?_⟩
      rw [lvN_one (by omega), d]
end Go.Proofs.YtmlladpmecclbaaDoor
/- plan: begun, levels, Top, there. -/
namespace Go.Proofs.YtmlladpmecclbaaDoor
open Go.RowKit

theorem tdiv_nat (a b : Nat) : Int.tdiv (a : Int) (b : Int) = ((a / b : Nat) : Int) := (Int.ofNat_tdiv a b).symm
set_option maxRecDepth 100000 in
theorem begun_any (w : World) (n s : Nat) (h1 : n ≤ 100000) (h0 : 1 ≤ s) (h2 : s ≤ 100000) : Calls Tryd.prog 69 #[.int .i64 (n : Int), .int .i64 (s : Int)] w fun e w' => e = .returned (.int .i64 (bg n s : Int)) ∧ w' = w := by
  obtain ⟨N, hN⟩ : ∃ N : Int, N = (n : Int) := ⟨_, rfl⟩
  obtain ⟨S, hS⟩ : ∃ S : Int, S = (s : Int) := ⟨_, rfl⟩
  have hq : Int.tdiv (N + S - 1) S = (bg n s : Int) := by
    rw [hN, hS, show (n : Int) + (s : Int) - 1 = ((n + s - 1 : Nat) : Int) by omega, tdiv_nat]; rfl
  rw [← hN, ← hS]
  have hN0 : 0 ≤ N := by omega
  have hN1 : N ≤ 100000 := by omega
  have hS0 : 1 ≤ S := by omega
  have hS1 : S ≤ 100000 := by omega
  have hSn : ¬ S = 0 := by omega
  have hBb : (bg n s : Int) ≤ 200000 := by
    have : bg n s ≤ n + s - 1 := Nat.div_le_self _ _
    omega
  have hB0 : (0 : Int) ≤ (bg n s : Int) := by omega
  generalize (bg n s : Int) = B at hq hBb hB0
  clear hN hS
  go_enter Tryd.func69, Tryd.ntmps69
  go_wp2
  go_ret
  exact ⟨rfl, rfl⟩
/-- A plan in a box. -/
structure PBox (w : World) (p : Pn) (v : Value) (wb : World) (gp : Nat) : Prop where
  ew : wb = w.alloc (.cells (pcells p v).toArray 25)
  eg : gp = w.heap.size
  grow : Grow w wb
  blk : Blk wb gp 25 (pcells p v)
theorem box_pl (w : World) (p : Pn) (v : Value) : ∃ wb gp, PBox w p v wb gp :=
  ⟨_, _, rfl, rfl, (But.refl _ w).alloc _, Blk.new rfl⟩
theorem iPl : (Tryd.prog.info? 25).map (·.size) = some 10 := by kernel_rfl
/-- A sum, a difference, as the machine makes them. -/
def ad (a b : Int) : Int := IntKind.i64.wrap (a + b)
def sb (a b : Int) : Int := IntKind.i64.wrap (a - b)
theorem ad_ok {a b : Int} (h1 : -9223372036854775808 ≤ a + b) (h2 : a + b ≤ 9223372036854775807) : ad a b = a + b := wrapI h1 h2
theorem sb_ok {a b : Int} (h1 : -9223372036854775808 ≤ a - b) (h2 : a - b ≤ 9223372036854775807) : sb a b = a - b := wrapI h1 h2
def Pn.top (p : Pn) : Int := sb (ad (ad p.pages p.counters) p.nodes) 1
set_option maxRecDepth 100000 in
theorem top_any (w : World) (p : Pn) (v : Value) : Calls Tryd.prog 59 #[pval p v] w fun e w' => e = .returned (.int .i64 p.top) ∧ Grow w w' := by
  obtain ⟨wb, gp, hbx⟩ := box_pl w p v
  have HW := Hid.mk' hbx.ew
  have HGP := Hid.mk' hbx.eg
  have HG := Hid.mk' hbx.grow
  have c0 : wb.cell? ⟨gp, 0, none⟩ = some (.int .i64 p.pages) := hbx.blk.cell 0
  have c2 : wb.cell? ⟨gp, 2, none⟩ = some (.int .i64 p.counters) := hbx.blk.cell 2
  have c4 : wb.cell? ⟨gp, 4, none⟩ = some (.int .i64 p.nodes) := hbx.blk.cell 4
  unfold Pn.top
  generalize p.pages = a0 at c0 ⊢
  generalize p.counters = a2 at c2 ⊢
  generalize p.nodes = a4 at c4 ⊢
  unfold pval
  obtain ⟨N, hN⟩ : ∃ N, N = (pcells p v).toArray := ⟨_, rfl⟩
  rw [← hN] at HW ⊢
  obtain ⟨s1, h1⟩ : ∃ s1, s1 = ad a0 a2 := ⟨_, rfl⟩
  obtain ⟨s2, h2⟩ : ∃ s2, s2 = ad s1 a4 := ⟨_, rfl⟩
  obtain ⟨s3, h3⟩ : ∃ s3, s3 = sb s2 1 := ⟨_, rfl⟩
  rw [← h1, ← h2, ← h3]
  have e1 : IntKind.i64.wrap (a0 + a2) = s1 := h1.symm
  have e2 : IntKind.i64.wrap (s1 + a4) = s2 := h2.symm
  have e3 : IntKind.i64.wrap (s2 - 1) = s3 := h3.symm
  clear hbx hN h1 h2 h3
  go_enter Tryd.func59, Tryd.ntmps59
  go_upto_region 1 with fail
  rw [← HW.out, ← HGP.out]
  clear HW HGP
  go_wp2
  go_ret
  exact ⟨rfl, HG.out⟩
def Pn.has (p : Pn) (x : Int) : Bool := decide (0 ≤ x ∧ x < p.pages)
set_option maxRecDepth 100000 in
theorem there_any (w : World) (p : Pn) (v : Value) (x : Int) : Calls Tryd.prog 39 #[pval p v, .int .i64 x] w fun e w' => e = .returned (.bool (p.has x)) ∧ Grow w w' := by
  obtain ⟨wb, gp, hbx⟩ := box_pl w p v
  have HW := Hid.mk' hbx.ew
  have HGP := Hid.mk' hbx.eg
  have HG := Hid.mk' hbx.grow
  have c0 : wb.cell? ⟨gp, 0, none⟩ = some (.int .i64 p.pages) := hbx.blk.cell 0
  unfold Pn.has
  generalize p.pages = a0 at c0 ⊢
  unfold pval
  obtain ⟨N, hN⟩ : ∃ N, N = (pcells p v).toArray := ⟨_, rfl⟩
  rw [← hN] at HW ⊢
  clear hbx hN
  by_cases h0 : 0 ≤ x
  · by_cases h1 : x < a0
    · rw [decide_eq_true ⟨h0, h1⟩]
      go_enter Tryd.func39, Tryd.ntmps39
      go_upto_region 1 with fail
      rw [← HW.out, ← HGP.out]
      clear HW HGP
      go_wp2
      go_ret
      exact ⟨rfl, HG.out⟩
    · rw [decide_eq_false (fun h => h1 h.2)]
      go_enter Tryd.func39, Tryd.ntmps39
      go_upto_region 1 with fail
      rw [← HW.out, ← HGP.out]
      clear HW HGP
      go_wp2
      go_ret
      exact ⟨rfl, HG.out⟩
  · rw [decide_eq_false (fun h => h0 h.1)]
    go_enter Tryd.func39, Tryd.ntmps39
    go_upto_region 1 with fail
    rw [← HW.out, ← HGP.out]
    clear HW HGP
    go_wp2
    go_ret
    exact ⟨rfl, HG.out⟩
/-- A row of numbers, new since w. -/
structure Own (w w' : World) (v : Value) (ks : List Int) : Prop where
  row : w'.ownsRow 0 3 1 v ks.length (numv ks)
  new : ∀ k, v.ownBlock = some k → w.heap.size ≤ k
theorem Own.grow {w w' w2 : World} {v : Value} {ks : List Int} (h : Own w w' v ks) (k : Grow w' w2) : Own w w2 v ks := ⟨ownsRow_grow h.row k, h.new⟩
/-- A number put behind an own row. -/
theorem Own.more {w w3 w4 : World} {v v4 : Value} {F : List Int} {x : Int} (h : Own w w3 v F) (hap : Appd w3 w4 3 1 v v4 (F.length + 1) (numv F ++ numv [x])) (hg : Grow w w3) : Own w w4 v4 (F ++ [x]) ∧ Grow w w4 := by
  refine ⟨⟨?_, fun k hk => ?_⟩, hg.then hap.but (fun b hb e => by have := h.new b e; omega)⟩
  · rw [List.length_append, List.length_singleton, show numv (F ++ [x]) = numv F ++ numv [x] by simp [numv]]
    exact hap.own
  · rcases hap.at' with e | e
    · exact h.new k (by rw [← e]; exact hk)
    · rw [e] at hk
      have := Option.some.inj hk
      have := hg.size
      omega
set_option maxRecDepth 100000 in
theorem levels_any (w : World) (c : Nat) (h1 : 1 ≤ c) (h2 : c ≤ 256) : Calls Tryd.prog 70 #[.int .i64 (c : Int)] w fun e w' => ∃ v, e = .returned v ∧ Own w w' v (toI (lvs c)) ∧ Grow w w' := by
  have HB := Hid.mk' (begun_any w c 8 (by omega) (by decide) (by decide))
  obtain ⟨m0, hm⟩ : ∃ m0, m0 = bg c 8 := ⟨_, rfl⟩
  have hL : lvs c = lvN 3 m0 := by rw [hm]; rfl
  have hm1 : 1 ≤ m0 := by rw [hm]; exact bg_pos h1
  have hm2 : m0 ≤ 8 ^ 3 := by rw [hm]; exact bg8 (k := 3) (by omega)
  rw [← hm] at HB
  have HL := Hid.mk' hL
  have HM := Hid.mk' (And.intro hm1 hm2)
  obtain ⟨w1, hw1⟩ : ∃ w1, w1 = w.alloc (.cells #[.int .i64 (m0 : Int)] 3) := ⟨_, rfl⟩
  have HO1 : Hid (Own w w1 (.slice (some ⟨w.heap.size, 0, none⟩) 1 1) (toI [m0])) := by
    rw [hw1]
    exact ⟨(RowOf.lit (Fr := fun _ => True) (n := 1) (Blk.new (L := numv [(m0 : Int)]) rfl) rfl (by decide) trivial).own, fun k hk => by have h9 : some w.heap.size = some k := hk; have := Option.some.inj h9; omega⟩
  have HG1 : Hid (Grow w w1) := by rw [hw1]; exact (But.refl _ w).alloc _
  have HW1 := Hid.mk' hw1
  clear hm hL hm1 hm2 hw1
  go_enter Tryd.func70, Tryd.ntmps70
  go_wp2_with fail
  refine Calls.mono HB.out ?_
  rintro e w' ⟨rfl, hw⟩
  have h3 := hw.symm
  subst h3
  clear hw HB
  go_wp2_with (first
    | (refine wpList_runH rfl (exec_row1 (v := .int .i64 (m0 : Int)) Tryd.underlying23 infNum (by decide) (by decide) rfl rfl rfl) ?_)
    | fail)
  rw [← HW1.out]
  clear HW1
  go_loopw [3, 4] (fun mv rv wr => ∃ (m k : Nat) (A : List Nat) (r : Value), mv = .int .i64 (m : Int) ∧ r = rv ∧ k ≤ 3 ∧ 1 ≤ m ∧ m ≤ 8 ^ k ∧ A.length ≤ 3 - k ∧ lvs c = A ++ lvN k m ∧ Own w wr r (toI (A ++ [m])) ∧ Grow w wr) (fun mv _ _ => (intOf mv).toNat)
  case atStart => exact ⟨m0, 3, [], _, rfl, rfl, by decide, HM.out.1, HM.out.2, by decide, HL.out, HO1.out, HG1.out⟩
  case round =>
    clear HM HL HO1 HG1
    rename_i rv
    obtain ⟨m, k, A, r, rfl, rfl, hk, hm1, hm8, hA, hL, hO, hG⟩ := hrel
    have HO := Hid.mk' hO
    have HG := Hid.mk' hG
    have HL := Hid.mk' hL
    have HM := Hid.mk' (And.intro hm1 hm8)
    have HK := Hid.mk' hk
    have HA := Hid.mk' hA
    have hmu : m ≤ 512 := Nat.le_trans hm8 (show 8 ^ k ≤ 8 ^ 3 from Nat.pow_le_pow_right (by decide) hk)
    have hmi : (m : Int) ≤ 512 := by omega
    clear hO hG hL hm8 hk hA
    by_cases hgt : 1 < m
    · have hgti : (1 : Int) < (m : Int) := by omega
      obtain ⟨k, rfl⟩ : ∃ j, k = j + 1 := by
        cases k with
        | zero => have := HM.out.2; simp at this; omega
        | succ j => exact ⟨j, rfl⟩
      have HB := Hid.mk' (begun_any wr m 8 (by omega) (by decide) (by decide))
      obtain ⟨m2, hm2⟩ : ∃ m2, m2 = bg m 8 := ⟨_, rfl⟩
      rw [← hm2] at HB
      have HM2 : Hid (1 ≤ m2 ∧ m2 ≤ 8 ^ k ∧ m2 < m) := Hid.mk' (by rw [hm2]; exact ⟨bg_pos hm1, bg8 HM.out.2, by unfold bg; omega⟩)
      have HL2 : Hid (lvs c = (A ++ [m]) ++ lvN k m2) := Hid.mk' (by rw [HL.out, lvN_more (by omega), List.append_assoc, hm2]; rfl)
      obtain ⟨F, hF⟩ : ∃ F, F = toI (A ++ [m]) := ⟨_, rfl⟩
      rw [← hF] at HO
      have HFE := Hid.mk' hF
      have HFL : Hid (F.length ≤ 8) := Hid.mk' (by rw [hF, toI_len, List.length_append, List.length_singleton]; have := HA.out; omega)
      have HAL : Hid (Grow wr (wr.alloc (.cells #[.int .i64 (m2 : Int)] 3))) := (But.refl _ wr).alloc _
      have HBL : Hid (Blk (wr.alloc (.cells #[.int .i64 (m2 : Int)] 3)) wr.heap.size 3 (numv [(m2 : Int)])) := Blk.new (L := numv [(m2 : Int)]) rfl
      clear hF hm2 hm1 hmu HM HL
      go_wp2_with fail
      refine Calls.mono HB.out ?_
      rintro e w' ⟨rfl, hw⟩
      have h3 := hw.symm
      subst h3
      clear hw HB
      go_wp2_with (first
        | (refine wpList_runH rfl (exec_row1 (v := .int .i64 (m2 : Int)) Tryd.underlying23 infNum (by decide) (by decide) rfl rfl rfl) ?_)
        | (refine wpList_someH rfl (exec_append (v := r) (n := F.length) (xs := numv F) (news := numv [(m2 : Int)]) Tryd.underlying23 infNum rfl (by decide) rfl rfl (ownsRow_grow HO.out.row HAL.out) rfl rfl (fun j u hj => HBL.out.cells0 j u hj) (fun u hu => by rw [show u = .int .i64 (m2 : Int) by simpa [numv] using hu]; rfl) (by have := HFL.out; omega) (by decide)) ?_; intro v4 w4 hap)
        | fail)
      obtain ⟨h5, h6⟩ := (HO.out.grow HAL.out).more hap (HG.out.trans HAL.out)
      refine ⟨⟨m2, k, A ++ [m], v4, rfl, rfl, by have := HK.out; omega, HM2.out.1, HM2.out.2.1, by rw [List.length_append, List.length_singleton]; have := HA.out; have := HK.out; omega, HL2.out, ?_, h6⟩, by simp [intOf]; have := HM2.out.2.2; omega⟩
      rw [show toI ((A ++ [m]) ++ [m2]) = F ++ [(m2 : Int)] by rw [HFE.out]; unfold toI; rw [List.map_append]; rfl]
      exact h5
    · have hgti : ¬ (1 : Int) < (m : Int) := by omega
      have HE : Hid (lvs c = A ++ [m]) := Hid.mk' (by rw [HL.out, lvN_one (by omega)])
      go_wp2
      go_ret
      exact ⟨_, rfl, by rw [HE.out]; exact HO.out, HG.out⟩
end Go.Proofs.YtmlladpmecclbaaDoor
/- plan: Of. -/
namespace Go.Proofs.YtmlladpmecclbaaDoor
open Go.RowKit

theorem wpList_store1 {w : World} {ops : Array Oper} {rest : List Oper} {o : Oper} {a : Act} {Q : Exit → Act → World → Prop} (hgd : o.guard = none) {t T : TypeId} (hsz : (Tryd.prog.info? t).map (·.size) = some 1) {x y : Operand} (ho : o.op = .store t x y)
    {g i : Nat} {v : Value} {L : List Value} (hx : a.eval x = .pointer (some ⟨g, i, none⟩)) (hy : a.eval y = v) (hv : v.oneCell' = true) (hb : Blk w g T L) (hi : i < L.length)
    (h : ∀ w', Blk w' g T (L.set i v) → But (· = g) w w' → wpList Tryd.prog ops Q rest (a.put o.dst undef) w') : wpList Tryd.prog ops Q (o :: rest) a w :=
  wpList_skipH hgd (exec_store hsz ho hx hy hv hb hi) (h _ (hb.set i v) (But.set1 w g i v))
theorem results_plan_tmp {P : Program} {fn : Func} {p u : Tmp} {ty : TypeId} (h : fn.results = #[.cell p ty, .tmp u]) (tmps : Array Value) (w : World) (g : Nat) (t : TypeId) (cs : Array Value) (d : TypeDesc) (v : Value)
    (hp : tmps.getD p undef = .pointer (some ⟨g, 0, none⟩)) (hg : w.heap[g]? = some (.cells cs t (0, 0))) (hu : P.underlying ty = some d) (hd : (match d with | .struct _ | .array _ _ => true | _ => false) = true) (hi : (P.info? ty).map (·.size) = some cs.size) (hv : tmps.getD u undef = v) :
    (results fn tmps).run P w = .ok (.tuple #[.agg cs, v]) w := by
  have hp' : tmps[p]?.getD undef = .pointer (some ⟨g, 0, none⟩) := by simpa using hp
  have hv' : tmps[u]?.getD undef = v := by simpa using hv
  simp [results, h, hp', hv', asAddr, run_loadVar_row w g t ty cs (0, 0) d hg hu hd hi]
theorem iIn : (Tryd.prog.info? 3).map (·.size) = some 1 := by kernel_rfl
theorem iSl : (Tryd.prog.info? 23).map (·.size) = some 1 := by kernel_rfl
def Pn.zero : Pn := ⟨0, 0, 0, [], 0, 0, 0, 0, 0, 0⟩
abbrev noS : Value := .slice none 0 0
theorem zPl (w : World) : (zeroValue 25).run Tryd.prog w = .ok (.agg (pcells Pn.zero noS).toArray) w := by kernel_rfl
theorem bldPl (a b : Int) (w : World) : (Instr.build 25 #[(0, .int .i64 a), (1, .int .i64 b)]).run Tryd.prog w = .ok (.agg (pcells ⟨a, b, 0, [], 0, 0, 0, 0, 0, 0⟩ noS).toArray) w := by kernel_rfl
theorem pcells_one (p : Pn) {v : Value} (hv : v.oneCell' = true) : ∀ u ∈ pcells p v, u.oneCell' = true := by
  intro u hu
  unfold pcells at hu
  simp only [List.mem_cons, List.not_mem_nil, or_false] at hu
  rcases hu with rfl | rfl | rfl | rfl | rfl | rfl | rfl | rfl | rfl | rfl <;> first | rfl | exact hv
def OfTo (w : World) (n b : Nat) (e : Ending) (w' : World) : Prop := ∃ v, e = .returned (.tuple #[pval (plan n b) v, .int .i64 0]) ∧ Own w w' v (plan n b).levels ∧ Grow w w'
set_option maxRecDepth 100000 in
theorem planof_not (w : World) (x y : Int) (h : ¬ (1 ≤ x ∧ x ≤ 4096 ∧ 1 ≤ y ∧ y ≤ 256)) : Calls Tryd.prog 62 #[.int .i64 x, .int .i64 y] w fun e w' => e = .returned (.tuple #[pval Pn.zero noS, .int .i64 1]) ∧ Grow w w' := by
  obtain ⟨g0, hg0⟩ : ∃ g, g = w.heap.size := ⟨_, rfl⟩
  obtain ⟨W0, hW0⟩ : ∃ W0, W0 = w.alloc (.cells (pcells Pn.zero noS).toArray 25) := ⟨_, rfl⟩
  have hT0 : Grow w W0 := by rw [hW0]; exact (But.refl _ w).alloc _
  have hB0 : Blk W0 g0 25 (pcells Pn.zero noS) := by rw [hW0]; exact Blk.new hg0.symm
  have HT0 := Hid.mk' hT0
  have HB0 := Hid.mk' hB0
  have HG := Hid.mk' hg0
  have HGE : Hid (w.heap.size ≤ g0) := Hid.mk' (by omega)
  have HW := Hid.mk' hW0
  clear hg0 hW0 hT0 hB0
  rcases (by omega : x < 1 ∨ (¬ x < 1 ∧ 4096 < x) ∨ (¬ x < 1 ∧ ¬ 4096 < x ∧ y < 1) ∨ (¬ x < 1 ∧ ¬ 4096 < x ∧ ¬ y < 1 ∧ 256 < y)) with h1 | ⟨h1, h2⟩ | ⟨h1, h2, h3⟩ | ⟨h1, h2, h3, h4⟩
  all_goals
    clear h
    go_enter Tryd.func62, Tryd.ntmps62
    go_upto_region 1 with (first
      | (refine wpList_runH rfl (exec_allocF rfl (zPl _)) ?_)
      | fail)
    rw [← HW.out, ← HG.out]
    clear HW HG
    go_upto_region 2 with fail
    go_wp2_with (first
      | (refine wpList_store_at rfl _ _ _ rfl g0 0 (pcells Pn.zero noS) rfl rfl 25 [] (pcells Pn.zero noS) [] (by simpa using HB0.out) rfl rfl iPl (pcells_one _ rfl) ?_; intro w3 hb3 hbut3; rw [List.nil_append, List.append_nil] at hb3)
      | fail)
    refine bodyPost_ret (results_plan_tmp rfl _ _ g0 _ _ _ _ rfl hb3 Tryd.underlying25 rfl iPl rfl) rfl ⟨rfl, ?_⟩
    exact HT0.out.then hbut3 (fun b hb e => by have := HGE.out; omega)
theorem Own.sl {w w' : World} {v : Value} {ks : List Int} (h : Own w w' v ks) : ∃ a c, v = .slice a ks.length c := own_sl h.row
theorem Own.nums {w w' : World} {v : Value} {ks : List Int} (h : Own w w' v ks) (hk : ∀ x ∈ ks, -9223372036854775808 ≤ x ∧ x ≤ 9223372036854775807) (hl : ks.length ≤ 140737488355328) : Nums w' v ks := Nums.ofRow h.row hk hl
theorem Own.but {R : Nat → Prop} {w w' w2 : World} {v : Value} {ks : List Int} (h : Own w w' v ks) (k : But R w' w2) (hr : ∀ j, v.ownBlock = some j → ¬ R j) : Own w w2 v ks := ⟨ownsRow_but h.row k hr, h.new⟩
theorem row_cellP {w : World} {e : TypeId} {v : Value} {L : List Value} (h : w.ownsRow 0 e 1 v L.length L) (h0 : 0 < L.length) : ∃ b cap, v = .slice (some ⟨b, 0, none⟩) L.length cap ∧ ∀ i u, L[i]? = some u → w.cell? ⟨b, i, none⟩ = some u := by
  have hr : RowOf w (fun _ => True) e 1 v L.length L := ⟨h, fun _ _ => trivial⟩
  obtain ⟨ao, cap, e1, h1⟩ := hr.shape
  obtain ⟨b, e2, -, -, hc⟩ := h1 (by omega)
  exact ⟨b, cap, by rw [e1, e2], hc⟩
theorem lvs_le {c : Nat} (h1 : 1 ≤ c) (h2 : c ≤ 256) : (lvs c).length ≤ 3 ∧ 1 ≤ (lvs c).length ∧ (lvs c).sum ≤ 37 ∧ ∀ x ∈ lvs c, 1 ≤ x ∧ x ≤ 32 := by
  rcases lvs_shape h1 h2 with ⟨a, e⟩ | ⟨a, b, e⟩ | ⟨a, e⟩
  · rw [e]; simp
  · rw [e]
    refine ⟨by simp, by simp, ?_, fun x hx => ?_⟩
    · simp; unfold bg; omega
    · simp at hx; rcases hx with rfl | rfl
      · unfold bg; omega
      · omega
  · rw [e]
    refine ⟨by simp, by simp, ?_, fun x hx => ?_⟩
    · simp; unfold bg; omega
    · simp at hx; rcases hx with rfl | rfl | rfl
      · unfold bg; omega
      · unfold bg; omega
      · omega
theorem toI_i64 {l : List Nat} (h : ∀ x ∈ l, x ≤ 1000000) : ∀ x ∈ toI l, -9223372036854775808 ≤ x ∧ x ≤ 9223372036854775807 := fun x hx => by
  unfold toI at hx
  obtain ⟨y, hy, rfl⟩ := List.mem_map.1 hx
  have := h y hy
  omega
/-- What memory is amid Of. -/
structure OfM (w wr : World) (g0 g1 : Nat) (v : Value) (L : List Nat) (p : Pn) : Prop where
  one : Blk wr g1 25 (pcells p v)
  zero : Blk wr g0 25 (pcells Pn.zero noS)
  own : Own w wr v (toI L)
  grow : Grow w wr
  ne : g0 ≠ g1 ∧ w.heap.size ≤ g0 ∧ w.heap.size ≤ g1
  nv : ∀ k, v.ownBlock = some k → k ≠ g0 ∧ k ≠ g1
theorem OfM.put {w wr w' : World} {g0 g1 : Nat} {v : Value} {L : List Nat} {p p' : Pn} (h : OfM w wr g0 g1 v L p) (hb : Blk w' g1 25 (pcells p' v)) (k : But (· = g1) wr w') : OfM w w' g0 g1 v L p' :=
  ⟨hb, h.zero.but k h.ne.1, h.own.but k (fun j hj e => (h.nv j hj).2 e), h.grow.then k (fun j hj e => by have := h.ne.2.2; omega), h.ne, h.nv⟩
theorem OfM.last {w wr w' : World} {g0 g1 : Nat} {v : Value} {L : List Nat} {p : Pn} (h : OfM w wr g0 g1 v L p) (k : But (· = g0) wr w') : Own w w' v (toI L) ∧ Grow w w' :=
  ⟨h.own.but k (fun j hj e => (h.nv j hj).1 e), h.grow.then k (fun j hj e => by have := h.ne.2.1; omega)⟩
set_option maxRecDepth 100000 in
set_option maxHeartbeats 4000000 in
theorem planof_any (w : World) (n b : Nat) (h1 : 1 ≤ n) (h2 : n ≤ 4096) (h3 : 1 ≤ b) (h4 : b ≤ 256) : Calls Tryd.prog 62 #[.int .i64 (n : Int), .int .i64 (b : Int)] w (OfTo w n b) := by
  obtain ⟨g0, hg0⟩ : ∃ g, g = w.heap.size := ⟨_, rfl⟩
  obtain ⟨W0, hW0⟩ : ∃ W0, W0 = w.alloc (.cells (pcells Pn.zero noS).toArray 25) := ⟨_, rfl⟩
  have hT0 : Grow w W0 := by rw [hW0]; exact (But.refl _ w).alloc _
  have hB0 : Blk W0 g0 25 (pcells Pn.zero noS) := by rw [hW0]; exact Blk.new hg0.symm
  obtain ⟨g1, hg1⟩ : ∃ g, g = W0.heap.size := ⟨_, rfl⟩
  obtain ⟨W1, hW1⟩ : ∃ W1, W1 = W0.alloc (.cells (pcells Pn.zero noS).toArray 25) := ⟨_, rfl⟩
  have hT1 : Grow w W1 := by rw [hW1]; exact hT0.alloc _
  have hB1 : Blk W1 g1 25 (pcells Pn.zero noS) := by rw [hW1]; exact Blk.new hg1.symm
  have hB01 : Blk W1 g0 25 (pcells Pn.zero noS) := by rw [hW1]; exact hB0.but ((But.refl (fun _ => False) W0).alloc _) (fun h => h)
  have HNE : Hid (g0 ≠ g1 ∧ w.heap.size ≤ g0 ∧ w.heap.size ≤ g1) := by
    have := hB0.lt
    have := hT0.size
    exact ⟨by omega, by omega, by omega⟩
  have HT1 := Hid.mk' hT1
  have HB1 := Hid.mk' hB1
  have HB01 := Hid.mk' hB01
  have HG0 := Hid.mk' hg0
  have HG1 := Hid.mk' hg1
  have HW0 := Hid.mk' hW0
  have HW1 := Hid.mk' hW1
  obtain ⟨c, hc⟩ : ∃ c, c = bg n 16 := ⟨_, rfl⟩
  have hc1 : 1 ≤ c := by rw [hc]; unfold bg; omega
  have hc2 : c ≤ 256 := by rw [hc]; unfold bg; omega
  obtain ⟨L, hL⟩ : ∃ L, L = lvs c := ⟨_, rfl⟩
  have hLL := lvs_le hc1 hc2
  rw [← hL] at hLL
  obtain ⟨nd, hnd⟩ : ∃ nd, nd = L.sum := ⟨_, rfl⟩
  obtain ⟨q, hq⟩ : ∃ q : Nat, q = 12 + 4 * b := ⟨_, rfl⟩
  obtain ⟨hs, hhs⟩ : ∃ hs, hs = bg q 256 := ⟨_, rfl⟩
  have hsb : hs ≤ 5 := by rw [hhs]; unfold bg; omega
  obtain ⟨hd, hhd⟩ : ∃ hd, hd = n + c + nd := ⟨_, rfl⟩
  have HPL : Hid (plan n b = ⟨n, b, c, toI L, nd, hd, hs, (hd + hs : Nat), (hd + hs + b : Nat), (hd + hs + b + b : Nat)⟩) := by
    subst hhd hhs hq hnd hL hc
    rfl
  have HBG1 := Hid.mk' (fun w => begun_any w n 16 (by omega) (by decide) (by decide))
  have HBG2 := Hid.mk' (fun w => begun_any w q 256 (by omega) (by decide) (by decide))
  have HLV := Hid.mk' (fun w => levels_any w c hc1 hc2)
  rw [← hc] at HBG1
  rw [← hhs] at HBG2
  rw [← hL] at HLV
  have HLL := Hid.mk' hLL
  have HND := Hid.mk' hnd
  have en : (n : Int) ≤ 4096 := by omega
  have en1 : (1 : Int) ≤ (n : Int) := by omega
  have eb : (b : Int) ≤ 256 := by omega
  have eb1 : (1 : Int) ≤ (b : Int) := by omega
  have n1 : ¬ (n : Int) < 1 := by omega
  have n2 : ¬ (4096 : Int) < (n : Int) := by omega
  have b1 : ¬ (b : Int) < 1 := by omega
  have b2 : ¬ (256 : Int) < (b : Int) := by omega
  have ec : (c : Int) ≤ 256 := by omega
  have hds : hd ≤ 4389 := by have := hLL.2.2.1; omega
  have HQ : Hid ((12 : Int) + 4 * (b : Int) = (q : Int)) := Hid.mk' (by omega)
  have HSM : Hid ((n : Int) + (c : Int) + (nd : Int) = (hd : Int) ∧ (hd : Int) + (hs : Int) = ((hd + hs : Nat) : Int) ∧ ((hd + hs : Nat) : Int) + (b : Int) = ((hd + hs + b : Nat) : Int) ∧ ((hd + hs + b : Nat) : Int) + (b : Int) = ((hd + hs + b + b : Nat) : Int)) := ⟨by omega, by omega, by omega, by omega⟩
  have HBD : Hid ((nd : Int) ≤ 37 ∧ (hd : Int) ≤ 4389 ∧ (hs : Int) ≤ 5) := ⟨by have := hLL.2.2.1; omega, by omega, by omega⟩
  clear h1 h2 h3 h4 hg0 hg1 hW0 hW1 hT0 hT1 hB0 hB1 hB01 hc hc1 hc2 hL hLL hnd hq hhs hsb hhd hds
  go_enter Tryd.func62, Tryd.ntmps62
  go_upto_region 1 with (first
    | (refine wpList_runH rfl (exec_allocF rfl (zPl _)) ?_)
    | fail)
  rw [← HW0.out, ← HG0.out]
  clear HW0 HG0
  go_upto_region 4 with (first
    | (refine wpList_runH rfl (exec_allocF rfl (zPl _)) ?_; rw [← HW1.out, ← HG1.out])
    | (refine wpList_build_run rfl _ [_, _] rfl [(0, .int .i64 (n : Int)), (1, .int .i64 (b : Int))] rfl _ (bldPl _ _ _) ?_)
    | (refine wpList_store_at rfl _ _ _ rfl g1 0 (pcells ⟨n, b, 0, [], 0, 0, 0, 0, 0, 0⟩ noS) rfl rfl 25 [] (pcells Pn.zero noS) [] (by simpa using HB1.out) rfl rfl iPl (pcells_one _ rfl) ?_; intro w2 hb2 hbut2; rw [List.nil_append, List.append_nil] at hb2)
    | fail)
  have HB2 := Hid.mk' hb2
  have HZ2 := Hid.mk' (HB01.out.but hbut2 HNE.out.1)
  have HT2 : Hid (Grow w w2) := HT1.out.then hbut2 (fun j hj e => by have := HNE.out.2.2; omega)
  clear hb2 hbut2 HW1 HG1 HB1 HB01 HT1
  go_wp2_with fail
  refine Calls.mono (HBG1.out _) ?_
  rintro e w' ⟨rfl, hw⟩
  have h3 := hw.symm
  subst h3
  clear hw HBG1
  go_upto_region 5 with (first
    | (refine wpList_store1 (g := g1) (i := 2) (v := .int .i64 (c : Int)) rfl iIn rfl rfl rfl rfl HB2.out (show 2 < 10 by decide) ?_; intro w3 hb3 hbut3)
    | fail)
  have hb3' : Blk w3 g1 25 (pcells ⟨n, b, c, [], 0, 0, 0, 0, 0, 0⟩ noS) := hb3
  have c2 : w3.cell? ⟨g1, 2, none⟩ = some (.int .i64 (c : Int)) := hb3'.cell 2
  have HB3 := Hid.mk' hb3'
  have HZ3 := Hid.mk' (HZ2.out.but hbut3 HNE.out.1)
  have HT3 : Hid (Grow w w3) := HT2.out.then hbut3 (fun j hj e => by have := HNE.out.2.2; omega)
  clear hb3 hb3' hbut3 HB2 HZ2 HT2
  go_wp2_with fail
  refine Calls.mono (HLV.out _) ?_
  rintro e w4 ⟨v4, rfl, ho4, hg4⟩
  obtain ⟨la, lc, e4⟩ := ho4.sl
  rw [toI_len] at e4
  obtain ⟨ln, hln⟩ : ∃ ln, ln = L.length := ⟨_, rfl⟩
  rw [← hln] at e4
  have HLN := Hid.mk' hln
  subst e4
  have HO4 := Hid.mk' (show Own w w4 _ _ from ⟨ho4.row, fun k hk => Nat.le_trans HT3.out.size (ho4.new k hk)⟩)
  have HN4 : Hid (∀ k, (Value.slice la ln lc).ownBlock = some k → k ≠ g0 ∧ k ≠ g1) := fun k hk => by
    have := ho4.new k hk
    have := HB3.out.lt
    have := HZ3.out.lt
    exact ⟨by omega, by omega⟩
  have HB4 := Hid.mk' (HB3.out.but hg4 (fun h => h))
  have HZ4 := Hid.mk' (HZ3.out.but hg4 (fun h => h))
  have HT4 := Hid.mk' (HT3.out.trans hg4)
  clear ho4 hln hg4 c2 HB3 HZ3 HT3 HLV
  go_upto_region 6 with (first
    | (refine wpList_store1 (g := g1) (i := 3) (v := .slice la ln lc) rfl iSl rfl rfl rfl rfl HB4.out (show 3 < 10 by decide) ?_; intro w5 hb5 hbut5)
    | fail)
  have HI0 : Hid (OfM w w5 g0 g1 (.slice la ln lc) L ⟨n, b, c, [], 0, 0, 0, 0, 0, 0⟩) :=
    ⟨hb5, HZ4.out.but hbut5 HNE.out.1, HO4.out.but hbut5 (fun j hj e => (HN4.out j hj).2 e), HT4.out.then hbut5 (fun j hj e => by have := HNE.out.2.2; omega), HNE.out, HN4.out⟩
  have c3 : w5.cell? ⟨g1, 3, none⟩ = some (.slice la ln lc) := HI0.out.one.cell 3
  clear hb5 hbut5 HB4 HZ4 HT4 HO4
  go_wp2
  have hlni : (ln : Int) ≤ 3 := by have := HLL.out.1; have := HLN.out; omega
  go_loopw [37] (fun iv wr => ∃ i : Nat, i ≤ ln ∧ iv = .int .i64 i ∧ OfM w wr g0 g1 (.slice la ln lc) L ⟨n, b, c, [], ((L.take i).sum : Nat), 0, 0, 0, 0, 0⟩) (fun iv _ => ln - (intOf iv).toNat)
  case atStart => exact ⟨0, Nat.zero_le _, rfl, HI0.out⟩
  case round =>
    clear HI0 c3
    obtain ⟨i, hil, rfl, hI⟩ := hrel
    by_cases hlt : i < ln
    · have hlti : (i : Int) < (ln : Int) := by omega
      obtain ⟨u, hu⟩ : ∃ u, L[i]? = some u := ⟨_, List.getElem?_eq_getElem (by have := HLN.out; omega)⟩
      obtain ⟨b4, c4, e4, hcell⟩ := row_cellP (e := 3) (L := numv (toI L)) (by rw [show (numv (toI L)).length = (toI L).length from List.length_map ..]; exact hI.own.row) (by rw [show (numv (toI L)).length = (toI L).length from List.length_map .., toI_len]; have := HLN.out; omega)
      simp only [Value.slice.injEq] at e4
      obtain ⟨rfl, -, rfl⟩ := e4
      have cu := hcell i (.int .i64 (u : Int)) (by unfold numv toI; rw [List.getElem?_map, List.getElem?_map, hu]; rfl)
      obtain ⟨sm, hsm⟩ : ∃ sm, sm = (L.take i).sum := ⟨_, rfl⟩
      have hsu : (L.take (i + 1)).sum = sm + u := by
        have h3 := List.getElem?_eq_some_iff.1 hu
        rw [List.take_succ_eq_append_getElem h3.1, List.sum_append, h3.2, hsm]; simp
      have hs37 : sm + u ≤ 37 := by
        rw [← hsu]
        refine Nat.le_trans ?_ HLL.out.2.2.1
        have := congrArg List.sum (List.take_append_drop (i + 1) L)
        rw [List.sum_append] at this
        omega
      have esm : (sm : Int) + (u : Int) = ((sm + u : Nat) : Int) := by omega
      have hsu1 : ((sm + u : Nat) : Int) ≤ 37 := by omega
      rw [← hsm] at hI
      have HI := Hid.mk' hI
      have HSU := Hid.mk' hsu
      have c4 : wr.cell? ⟨g1, 4, none⟩ = some (.int .i64 (sm : Int)) := hI.one.cell 4
      obtain ⟨su, hsu2⟩ : ∃ su : Int, su = ((sm + u : Nat) : Int) := ⟨_, rfl⟩
      rw [← hsu2] at esm hsu1
      have HSS : Hid (((sm + u : Nat) : Int) = su) := hsu2.symm
      clear hI hu hcell hsm hsu hs37 hil hsu2
      go_wp2_with (first
        | (refine wpList_store1 (g := g1) (i := 4) (v := .int .i64 su) rfl iIn rfl rfl rfl rfl HI.out.one (show 4 < 10 by decide) ?_; intro w6 hb6 hbut6)
        | fail)
      exact ⟨⟨i + 1, by omega, by go_num, by rw [HSU.out, HSS.out]; exact HI.out.put hb6 hbut6⟩, by simp [intOf]; omega⟩
    · have hie : i = ln := by omega
      have hlti : ¬ (i : Int) < (ln : Int) := by omega
      rw [hie, HLN.out, List.take_of_length_le (Nat.le_refl _), ← HND.out] at hI
      rw [← HLN.out] at hI
      have HI := Hid.mk' hI
      have d0 : wr.cell? ⟨g1, 0, none⟩ = some (.int .i64 (n : Int)) := hI.one.cell 0
      have d2 : wr.cell? ⟨g1, 2, none⟩ = some (.int .i64 (c : Int)) := hI.one.cell 2
      have d4 : wr.cell? ⟨g1, 4, none⟩ = some (.int .i64 (nd : Int)) := hI.one.cell 4
      obtain ⟨q1, q2, q3, q4⟩ := HSM.out
      obtain ⟨q5, q6, q7⟩ := HBD.out
      obtain ⟨s7, hs7⟩ : ∃ s : Int, s = ((hd + hs : Nat) : Int) := ⟨_, rfl⟩
      obtain ⟨s8, hs8⟩ : ∃ s : Int, s = ((hd + hs + b : Nat) : Int) := ⟨_, rfl⟩
      obtain ⟨s9, hs9⟩ : ∃ s : Int, s = ((hd + hs + b + b : Nat) : Int) := ⟨_, rfl⟩
      rw [← hs7] at q2 q3
      rw [← hs8] at q3 q4
      rw [← hs9] at q4
      have HPE : Hid (plan n b = ⟨n, b, c, toI L, nd, hd, hs, s7, s8, s9⟩) := by rw [hs7, hs8, hs9]; exact HPL.out
      have hQ := HQ.out
      have q8 : s7 ≤ 5000 := by omega
      have q9 : s8 ≤ 5500 := by omega
      clear hI hie hil hs7 hs8 hs9 HSM HBD HPL HQ hlt
      go_upto_region 12 with (first
        | (refine wpList_store1 (g := g1) (i := 5) (v := .int .i64 (hd : Int)) rfl iIn rfl rfl rfl rfl HI.out.one (show 5 < 10 by decide) ?_; intro w6 hb6 hbut6)
        | fail)
      have H6 := Hid.mk' (HI.out.put (p' := ⟨n, b, c, [], nd, hd, 0, 0, 0, 0⟩) hb6 hbut6)
      clear hb6 hbut6 d0 d2 d4 HI
      go_wp2_with fail
      refine Calls.mono (HBG2.out _) ?_
      rintro e w' ⟨rfl, hw⟩
      have h3 := hw.symm
      subst h3
      clear hw HBG2
      go_upto_region 13 with (first
        | (refine wpList_store1 (g := g1) (i := 6) (v := .int .i64 (hs : Int)) rfl iIn rfl rfl rfl rfl H6.out.one (show 6 < 10 by decide) ?_; intro w7 hb7 hbut7)
        | fail)
      have H7 := Hid.mk' (H6.out.put (p' := ⟨n, b, c, [], nd, hd, hs, 0, 0, 0⟩) hb7 hbut7)
      have d5 : w7.cell? ⟨g1, 5, none⟩ = some (.int .i64 (hd : Int)) := H7.out.one.cell 5
      have d6 : w7.cell? ⟨g1, 6, none⟩ = some (.int .i64 (hs : Int)) := H7.out.one.cell 6
      clear hb7 hbut7 H6
      go_upto_region 14 with (first
        | (refine wpList_store1 (g := g1) (i := 7) (v := .int .i64 s7) rfl iIn rfl rfl rfl rfl H7.out.one (show 7 < 10 by decide) ?_; intro w8 hb8 hbut8)
        | fail)
      have H8 := Hid.mk' (H7.out.put (p' := ⟨n, b, c, [], nd, hd, hs, s7, 0, 0⟩) hb8 hbut8)
      have d7 : w8.cell? ⟨g1, 7, none⟩ = some (.int .i64 s7) := H8.out.one.cell 7
      clear hb8 hbut8 H7 d5 d6
      go_upto_region 15 with (first
        | (refine wpList_store1 (g := g1) (i := 8) (v := .int .i64 s8) rfl iIn rfl rfl rfl rfl H8.out.one (show 8 < 10 by decide) ?_; intro w9 hb9 hbut9)
        | fail)
      have H9 := Hid.mk' (H8.out.put (p' := ⟨n, b, c, [], nd, hd, hs, s7, s8, 0⟩) hb9 hbut9)
      have d8 : w9.cell? ⟨g1, 8, none⟩ = some (.int .i64 s8) := H9.out.one.cell 8
      clear hb9 hbut9 H8 d7
      go_upto_region 16 with (first
        | (refine wpList_store1 (g := g1) (i := 9) (v := .int .i64 s9) rfl iIn rfl rfl rfl rfl H9.out.one (show 9 < 10 by decide) ?_; intro w10 hb10 hbut10)
        | fail)
      have H10 := Hid.mk' (H9.out.put (p' := ⟨n, b, c, [], nd, hd, hs, s7, s8, s9⟩) hb10 hbut10)
      have HCW : Hid (∀ j u, (pcells ⟨n, b, c, [], nd, hd, hs, s7, s8, s9⟩ (.slice la ln lc))[j]? = some u → w10.cell? ((⟨g1, 0, none⟩ : Addr).add j) = some u) := fun j u hj => by
        rw [addr_add, Nat.zero_add, H10.out.one.cell j]; exact hj
      clear hb10 hbut10 H9 d8
      go_wp2_with (first
        | (refine wpList_load_cells rfl _ _ rfl ⟨g1, 0, none⟩ rfl (pcells ⟨n, b, c, [], nd, hd, hs, s7, s8, s9⟩ (.slice la ln lc)) _ HCW.out Tryd.underlying25 rfl iPl ?_)
        | (refine wpList_store_at rfl _ _ _ rfl g0 0 (pcells ⟨n, b, c, [], nd, hd, hs, s7, s8, s9⟩ (.slice la ln lc)) rfl rfl 25 [] (pcells Pn.zero noS) [] (by simpa using H10.out.zero) rfl rfl iPl (pcells_one _ rfl) ?_; intro w11 hb11 hbut11; rw [List.nil_append, List.append_nil] at hb11)
        | fail)
      obtain ⟨ho, hg⟩ := H10.out.last hbut11
      refine bodyPost_ret (results_plan_tmp rfl _ _ g0 _ _ _ _ rfl hb11 Tryd.underlying25 rfl iPl rfl) rfl ⟨.slice la ln lc, ?_, ?_, hg⟩
      · rw [HPE.out]; rfl
      · rw [HPE.out]; exact ho
end Go.Proofs.YtmlladpmecclbaaDoor
/- tree: why a node has no such digest, Kid, lay, SetKid, whole. -/
namespace Go.Proofs.YtmlladpmecclbaaDoor
open Go.RowKit

/-- Why there is no digest i of a node. -/
def rfK (b : List Nat) (i : Int) : Int := if b.length ≠ 256 then 3 else if i < 0 ∨ 7 < i then 1 else 0
theorem rfK_ok {b : List Nat} {i : Nat} (hb : b.length = 256) (hi : i < 8) : rfK b i = 0 := by
  unfold rfK; rw [if_neg (by omega), if_neg (by omega)]
theorem rfK_zero {b : List Nat} {i : Int} (h : rfK b i = 0) : b.length = 256 ∧ 0 ≤ i ∧ i < 8 := by
  unfold rfK at h
  by_cases hb : b.length ≠ 256
  · rw [if_pos hb] at h; exact absurd h (by decide)
  · rw [if_neg hb] at h
    by_cases hi : i < 0 ∨ 7 < i
    · rw [if_pos hi] at h; exact absurd h (by decide)
    · omega
set_option maxHeartbeats 2000000 in
theorem trefused_any {w : World} {v : Value} {b : List Nat} (h : Bs w v b) (i : Int) :
    Calls Tryd.prog 60 #[v, .int .i64 i] w fun e w' => e = .returned (.int .i64 (rfK b i)) ∧ w' = w := by
  obtain ⟨ao, cap, rfl, -⟩ := h.gen
  clear h
  obtain ⟨R, hR⟩ : ∃ R, R = rfK b i := ⟨_, rfl⟩
  have HR := Hid.mk' hR
  rw [← hR]
  clear hR
  generalize hn : b.length = n at *
  have HN := Hid.mk' hn
  clear hn
  by_cases h1 : n = 256
  · subst h1
    by_cases h2 : i < 0
    · have hr : R = 1 := by rw [HR.out]; unfold rfK; rw [if_neg (by have := HN.out; omega), if_pos (.inl h2)]
      subst hr
      go_enter Tryd.func60, Tryd.ntmps60
      go_wp2
      go_ret
      exact ⟨rfl, rfl⟩
    · by_cases h3 : 8 ≤ i
      · have hr : R = 1 := by rw [HR.out]; unfold rfK; rw [if_neg (by have := HN.out; omega), if_pos (.inr (by omega))]
        subst hr
        go_enter Tryd.func60, Tryd.ntmps60
        go_wp2
        go_ret
        exact ⟨rfl, rfl⟩
      · have hr : R = 0 := by rw [HR.out]; unfold rfK; rw [if_neg (by have := HN.out; omega), if_neg (by omega)]
        subst hr
        go_enter Tryd.func60, Tryd.ntmps60
        go_wp2
        go_ret
        exact ⟨rfl, rfl⟩
  · have hr : R = 3 := by rw [HR.out]; unfold rfK; rw [if_pos (by have := HN.out; omega)]
    subst hr
    go_enter Tryd.func60, Tryd.ntmps60
    go_wp2
    go_ret
    exact ⟨rfl, rfl⟩
theorem slice_lowT {b so m cap n : Nat} (hn : n ≤ m) (hc : n < cap) (w0 : World) :
    (Instr.sliceAt 22 (.slice (some ⟨b, so, none⟩) m cap) (some (.int .i64 (n : Int))) none none).run Tryd.prog w0 = .ok (.slice (some ⟨b, so + n, none⟩) (m - n) (cap - n)) w0 := by
  have hu : Tryd.prog.underlying 22 = some (.slice (Tryd.prog.elem 22)) := by kernel_rfl
  have he : Tryd.prog.elem 22 = 5 := by kernel_rfl
  have hs : ∀ w0 : World, (sizeOf 5).run Tryd.prog w0 = .ok 1 w0 := fun w0 => by kernel_rfl
  rw [run_sliceAt_slice _ _ _ _ _ _ hu, run_slice_l w0 _ _ _ _ hu .i64 (n : Int) (by omega) (by omega), he, hs]
  have hcn : ¬ cap = n := by omega
  simp [Result.andThen, sliced, hcn, Addr.add]
theorem slice32 (w : World) (g : Nat) : (Instr.sliceAt 31 (.pointer (some ⟨g, 0, none⟩)) none none none).run Tryd.prog w = .ok (.slice (some ⟨g, 0, none⟩) 32 32) w := by kernel_rfl
theorem bz32 (w : World) : (Instr.build 31 #[]).run Tryd.prog w = .ok (.agg (u8s z32).toArray) w := run_build w _ _ _ (by kernel_rfl)
theorem u8s_split (zs : List Nat) (k : Nat) (R : List Value) : u8s zs ++ R = u8s (zs.take k) ++ u8s ((zs.drop k).take 32) ++ (u8s (zs.drop (k + 32)) ++ R) := by
  have e : zs = zs.take k ++ ((zs.drop k).take 32 ++ zs.drop (k + 32)) := by
    have h2 : (zs.drop k).take 32 ++ zs.drop (k + 32) = zs.drop k := by
      have := List.take_append_drop 32 (zs.drop k)
      rwa [List.drop_drop] at this
    rw [h2, List.take_append_drop]
  conv => lhs; rw [e]
  simp only [u8s_append, List.append_assoc]
set_option maxRecDepth 100000 in
set_option maxHeartbeats 4000000 in
theorem trlay_any {w : World} {g cap i : Nat} {zs D : List Nat} {R : List Value} (hb : Blk w g 5 (u8s zs ++ R)) (hl : zs.length = 256) (hc : 256 ≤ cap) (hi : i < 8) (hD : D.length = 32) :
    Calls Tryd.prog 37 #[.slice (some ⟨g, 0, none⟩) 256 cap, .int .i64 (i : Int), dkey D] w fun r w' => r = .returned (.tuple #[]) ∧ Blk w' g 5 (u8s (setK zs i D) ++ R) ∧ But (· = g) w w' := by
  obtain ⟨k, hk⟩ : ∃ k, k = 32 * i := ⟨_, rfl⟩
  have hki : (i : Int) * 32 = (k : Int) := by omega
  have hk2 : k + 32 ≤ 256 := by omega
  have HK := Hid.mk' hk
  obtain ⟨p, hp⟩ : ∃ p, p = w.heap.size := ⟨_, rfl⟩
  have hgp : g < p := by rw [hp]; exact hb.lt
  obtain ⟨N, hN⟩ : ∃ N, N = (u8s D).toArray := ⟨_, rfl⟩
  obtain ⟨W0, hW0⟩ : ∃ W0, W0 = w.alloc (.cells N 31) := ⟨_, rfl⟩
  have hT0 : Grow w W0 := by rw [hW0]; exact (But.refl _ w).alloc _
  have HQ0 : Hid (Blk W0 p 31 (u8s D)) := by show Blk _ _ _ _; rw [hW0, hN]; exact Blk.new hp.symm
  have HB0 := Hid.mk' (hb.but hT0 (fun h => h))
  have HT0 := Hid.mk' hT0
  have HP := Hid.mk' hp
  have HW0 := Hid.mk' hW0
  have HDL := Hid.mk' hD
  have HL := Hid.mk' hl
  unfold dkey
  rw [← hN]
  clear hT0 hp hW0 hb hl hN hD hk
  rw [u8s_split zs k R] at HB0
  have l1 : (u8s (zs.take k)).length = k := by have := HL.out; simp [u8s]; omega
  have l2 : (u8s ((zs.drop k).take 32)).length = 32 := by have := HL.out; simp [u8s]; omega
  have HL1 := Hid.mk' l1
  have HL2 := Hid.mk' l2
  clear l1 l2
  go_enter Tryd.func37, Tryd.ntmps37
  go_upto_region 1 with fail
  rw [← HW0.out, ← HP.out]
  refine region_class (l := [_, _, _, _, _]) (o := _) (fun w' => But (fun _ => False) W0 w') (by kernel_rfl) (by kernel_rfl) (by kernel_rfl) rfl (by kernel_rfl) (by kernel_rfl) ((But.refl _ W0).drew) ?_
  refine class_val (.slice (some ⟨g, 0, none⟩) 256 cap) rfl (fun w' _ => by go_simp) ?_
  intro K hK; go_simp; refine hK _ ?_; clear hK K
  refine class_val (.int .i64 (i : Int)) rfl (fun w' _ => by go_simp) ?_
  intro K hK; go_simp; refine hK _ ?_; clear hK K
  have hwk : IntKind.i64.wrap (k : Int) = (k : Int) := wrapN k (by omega)
  refine class_val (.int .i64 (k : Int)) rfl (fun w' _ => by go_simp) ?_
  intro K hK; go_simp; refine hK _ ?_; clear hK K
  have hs1 := fun w' => slice_lowT (b := g) (so := 0) (m := 256) (cap := cap) (n := k) (by omega) (by omega) w'
  simp only [Nat.zero_add] at hs1
  refine class_val (.slice (some ⟨g, k, none⟩) (256 - k) (cap - k)) rfl (fun w' _ => exec_slc rfl rfl rfl rfl (hs1 w')) ?_
  intro K hK; go_simp; refine hK _ ?_; clear hK K
  refine class_val (.slice (some ⟨p, 0, none⟩) 32 32) rfl (fun w' _ => exec_slc rfl rfl rfl rfl (slice32 w' p)) ?_
  intro K hK; go_simp; refine hK _ ?_; clear hK K
  refine wpQuiet_nil ?_
  intro w6 hw6
  have hB6 := HB0.out.but hw6 (fun h => h)
  have hQ6 := HQ0.out.but hw6 (fun h => h)
  have hcp2 := run_copy_blk (off := k) (dLen := 256 - k) (dCap := cap - k) (sCap := 32) (b := p) (so := 0) (n := 32) (ys := D) 3 hB6 HL1.out HL2.out (by rw [HDL.out]; exact (Nat.min_eq_left (by omega)).symm) (fun i hi => by rw [hQ6.cell, Nat.zero_add, u8s_get _ i hi])
  rw [List.take_of_length_le (l := D) (by have := HDL.out; omega), HDL.out] at hcp2
  obtain ⟨W7, hW7⟩ : ∃ W7, W7 = w6.setRow g (u8s (zs.take k) ++ u8s D ++ (u8s (zs.drop (k + 32)) ++ R)).toArray := ⟨_, rfl⟩
  rw [← hW7] at hcp2
  have HT7 : Hid (But (· = g) w6 W7) := by rw [hW7]; exact (But.refl (· = g) w6).setRow (fun _ => rfl) _
  have HB7 : Hid (Blk W7 g 5 (u8s (setK zs i D) ++ R)) := by
    have := hB6.row (u8s (zs.take k) ++ u8s D ++ (u8s (zs.drop (k + 32)) ++ R))
    rw [← hW7] at this
    show Blk _ _ _ _
    unfold setK
    rw [← HK.out]
    simp only [u8s_append, List.append_assoc] at this ⊢
    exact this
  have HT6 := Hid.mk' hw6
  clear hW7 hB6 hQ6 hw6 HB0 HQ0
  go_wp2
  go_end0
  exact ⟨rfl, HB7.out, ((HT0.out.trans HT6.out).mono (fun _ _ h => h.elim)).trans HT7.out⟩
set_option maxRecDepth 100000 in
set_option maxHeartbeats 4000000 in
theorem tkid_no {w : World} {v : Value} {b : List Nat} (h : Bs w v b) (i : Int) (hn : rfK b i ≠ 0) :
    Calls Tryd.prog 43 #[v, .int .i64 i] w fun e w' => e = .returned (.tuple #[dkey z32, .int .i64 (rfK b i)]) ∧ Grow w w' := by
  obtain ⟨Z, hZ⟩ : ∃ Z, Z = u8s z32 := ⟨_, rfl⟩
  have hz := z32v
  have hbz := bz32
  rw [← hZ] at hz hbz
  have HZL : Hid (Z.length = 32) := by show _ = _; rw [hZ]; rfl
  have HZE := Hid.mk' hZ
  obtain ⟨g0, hg0⟩ : ∃ g, g = w.heap.size := ⟨_, rfl⟩
  obtain ⟨W0, hW0⟩ : ∃ W0, W0 = w.alloc (.cells Z.toArray 31) := ⟨_, rfl⟩
  have hT0 : Grow w W0 := by rw [hW0]; exact (But.refl _ w).alloc _
  have HR0 : Hid (Blk W0 g0 31 Z) := by show Blk _ _ _ _; rw [hW0]; exact Blk.new hg0.symm
  have HRF := Hid.mk' (trefused_any (h.but hT0 (fun _ _ _ h => h)) i)
  obtain ⟨r, hr⟩ : ∃ r, r = rfK b i := ⟨_, rfl⟩
  rw [← hr] at HRF hn ⊢
  unfold dkey
  rw [← hZ]
  have hr0 : (r == 0) = false := by simpa using hn
  have HT0 := Hid.mk' hT0
  have HG0 := Hid.mk' hg0
  have HW0 := Hid.mk' hW0
  have HBZ := Hid.mk' hbz
  obtain ⟨ao, cap, rfl, -⟩ := h.gen
  generalize b.length = n at *
  clear h hZ hg0 hW0 hT0 hr hbz hn
  go_enter Tryd.func43, Tryd.ntmps43
  go_wp2_with fail
  rw [← HW0.out, ← HG0.out]
  refine Calls.mono HRF.out ?_
  rintro e w1 ⟨rfl, hw⟩
  have h2 := hw.symm
  subst h2
  clear hw
  go_wp2_with (first
    | (refine wpList_build_run rfl _ [] rfl [] rfl _ (HBZ.out _) ?_)
    | (refine wpList_store_at rfl _ _ _ rfl g0 0 Z rfl rfl 31 [] Z [] (by rw [List.nil_append, List.append_nil]; exact HR0.out) rfl rfl (by rw [i32, HZL.out]) (by rw [HZE.out]; exact u8s_one _) ?_; intro W9 hb9 hbut9)
    | fail)
  rw [List.nil_append, List.append_nil] at hb9
  refine bodyPost_ret (results_plan_tmp rfl _ _ g0 _ _ _ _ rfl hb9 ukt rfl (by rw [i32]; simp [HZL.out]) rfl) rfl ⟨rfl, ?_⟩
  exact HT0.out.then hbut9 (fun i hi e => by have := HG0.out; omega)
theorem cell_lt {w : World} {b o : Nat} {u : Value} (h : w.cell? ⟨b, o, none⟩ = some u) : b < w.heap.size := by
  by_cases hb : b < w.heap.size
  · exact hb
  · have : w.heap[b]? = none := Array.getElem?_eq_none (by omega)
    simp [World.cell?, this] at h
set_option maxRecDepth 100000 in
set_option maxHeartbeats 4000000 in
theorem tkid_any {w : World} {v : Value} {b : List Nat} (h : Bs w v b) {i : Nat} (hl : b.length = 256) (hi : i < 8) :
    Calls Tryd.prog 43 #[v, .int .i64 (i : Int)] w fun e w' => e = .returned (.tuple #[dkey (kidL b i), .int .i64 0]) ∧ Grow w w' := by
  obtain ⟨Z, hZ⟩ : ∃ Z, Z = u8s z32 := ⟨_, rfl⟩
  have hz := z32v
  rw [← hZ] at hz
  have HZL : Hid (Z.length = 32) := by show _ = _; rw [hZ]; rfl
  obtain ⟨g0, hg0⟩ : ∃ g, g = w.heap.size := ⟨_, rfl⟩
  obtain ⟨W0, hW0⟩ : ∃ W0, W0 = w.alloc (.cells Z.toArray 31) := ⟨_, rfl⟩
  obtain ⟨W1, hW1⟩ : ∃ W1, W1 = W0.alloc (.cells Z.toArray 31) := ⟨_, rfl⟩
  have hT0 : Grow w W0 := by rw [hW0]; exact (But.refl _ w).alloc _
  have hT1 : Grow w W1 := by rw [hW1]; exact hT0.alloc _
  have hs0 : W0.heap.size = g0 + 1 := by rw [hW0, hg0]; simp
  have HR0 : Hid (Blk W1 g0 31 Z) := by
    show Blk _ _ _ _
    have : Blk W0 g0 31 Z := by rw [hW0]; exact Blk.new hg0.symm
    rw [hW1]; exact this.but (R := fun _ => False) ((But.refl _ W0).alloc _) (fun h => h)
  have HR1 : Hid (Blk W1 (g0 + 1) 31 Z) := by show Blk _ _ _ _; rw [hW1]; exact Blk.new hs0
  have hrf := trefused_any (h.but hT0 (fun _ _ _ h => h)) (i : Int)
  rw [rfK_ok hl hi] at hrf
  have HRF := Hid.mk' hrf
  obtain ⟨k, hk⟩ : ∃ k, k = 32 * i := ⟨_, rfl⟩
  have hki : (i : Int) * 32 = (k : Int) := by omega
  have hwk : IntKind.i64.wrap (k : Int) = (k : Int) := wrapN k (by omega)
  have hk2 : k + 32 ≤ 256 := by omega
  have HK := Hid.mk' hk
  have HT1 := Hid.mk' hT1
  have HG0 := Hid.mk' hg0
  have HW0 := Hid.mk' hW0
  have HW1 := Hid.mk' hW1
  have HS0 := Hid.mk' hs0
  have HB := Hid.mk' (h.but hT1 (fun _ _ _ h => h))
  have HL := Hid.mk' hl
  obtain ⟨-, -, ⟨rfl, -⟩ | ⟨-, vb, off, cap, rfl, hcap, hvb, hc⟩⟩ := h
  · cases hl
  rw [hl] at hcap HB hrf HRF ⊢
  have HC : Hid (∀ j, j < 256 → W1.cell? ⟨vb, off + j, none⟩ = some (.int .u8 (b.getD j 0 : Nat))) := fun j hj => (World.cell?_of_block (hT1.block vb hvb (fun h => h))).trans (hc j (by omega))
  clear hc hvb hT0 hT1 hW0 hW1 hg0 hrf hk hl hZ hs0
  go_enter Tryd.func43, Tryd.ntmps43
  go_wp2_with fail
  rw [← HW0.out, ← HG0.out]
  refine Calls.mono HRF.out ?_
  rintro e w1 ⟨rfl, hw⟩
  have h2 := hw.symm
  subst h2
  clear hw
  go_upto_region 5 with fail
  rw [← HW1.out, HS0.out]
  refine region_class (l := [_, _, _, _, _]) (o := _) (fun w' => But (fun _ => False) W1 w') (by kernel_rfl) (by kernel_rfl) (by kernel_rfl) rfl (by kernel_rfl) (by kernel_rfl) ((But.refl _ W1).drew) ?_
  refine class_val (.slice (some ⟨g0 + 1, 0, none⟩) 32 32) rfl (fun w' _ => exec_slc rfl rfl rfl rfl (slice32 w' (g0 + 1))) ?_
  intro K hK; go_simp; refine hK _ ?_; clear hK K
  refine class_val (.slice (some ⟨vb, off, none⟩) 256 cap) rfl (fun w' _ => by go_simp) ?_
  intro K hK; go_simp; refine hK _ ?_; clear hK K
  refine class_val (.int .i64 (i : Int)) rfl (fun w' _ => by go_simp) ?_
  intro K hK; go_simp; refine hK _ ?_; clear hK K
  refine class_val (.int .i64 (k : Int)) rfl (fun w' _ => by go_simp) ?_
  intro K hK; go_simp; refine hK _ ?_; clear hK K
  have hs1 := fun w' => slice_lowT (b := vb) (so := off) (m := 256) (cap := cap) (n := k) (by omega) (by omega) w'
  refine class_val (.slice (some ⟨vb, off + k, none⟩) (256 - k) (cap - k)) rfl (fun w' _ => exec_slc rfl rfl rfl rfl (hs1 w')) ?_
  intro K hK; go_simp; refine hK _ ?_; clear hK K
  refine wpQuiet_nil ?_
  intro w6 hw6
  have hB6 := HR1.out.but hw6 (fun h => h)
  have HC6 : Hid (∀ j, j < 256 → w6.cell? ⟨vb, off + j, none⟩ = some (.int .u8 (b.getD j 0 : Nat))) := fun j hj => (World.cell?_of_block (hw6.block vb (by have := cell_lt (HC.out 0 (by decide)); exact this) (fun h => h))).trans (HC.out j hj)
  have hdl : (b.drop k).length = 256 - k := by have := HL.out; simp; omega
  have hcp2 := run_copy_blk (off := 0) (A := []) (old := Z) (B := []) (dLen := 32) (dCap := 32) (sCap := cap - k) (b := vb) (so := off + k) (n := 32) (ys := b.drop k) 3 (by rw [List.nil_append, List.append_nil]; exact hB6) rfl HZL.out (by rw [hdl]; exact (Nat.min_eq_right (by omega)).symm) (fun j hj => by
    rw [Nat.add_assoc, HC6.out (k + j) (by omega)]
    simp [List.getD])
  rw [List.nil_append, List.append_nil, hdl, show (b.drop k).take 32 = kidL b i by rw [HK.out]; rfl] at hcp2
  have HD : Hid ((kidL b i).length = 32) := kidL_len (by have := HL.out; omega)
  obtain ⟨W7, hW7⟩ : ∃ W7, W7 = w6.setRow (g0 + 1) (u8s (kidL b i)).toArray := ⟨_, rfl⟩
  rw [← hW7] at hcp2
  have HT7 : Hid (But (· = g0 + 1) w6 W7) := by rw [hW7]; exact (But.refl (· = g0 + 1) w6).setRow (fun _ => rfl) _
  have HB7 : Hid (Blk W7 (g0 + 1) 31 (u8s (kidL b i))) := by show Blk _ _ _ _; rw [hW7]; exact hB6.row _
  have HR7 := Hid.mk' ((HR0.out.but hw6 (fun h => h)).but HT7.out (show ¬ (g0 = g0 + 1) by omega))
  have HT6 := Hid.mk' hw6
  clear hW7 hB6 hw6 HR0 HR1 HC HC6 HB hdl HRF
  go_wp2_with (first
    | (refine wpList_load_u8s ukt i32 rfl _ rfl (g0 + 1) (kidL b i) HD.out rfl HB7.out ?_)
    | (refine wpList_store_u8s i32 rfl _ _ rfl g0 (kidL b i) HD.out rfl rfl Z HZL.out HR7.out ?_; intro W9 hb9 hbut9)
    | fail)
  refine bodyPost_ret (results_plan_tmp rfl _ _ g0 _ _ _ _ rfl hb9 ukt rfl (by rw [i32]; simp [HD.out]) rfl) rfl ⟨rfl, ?_⟩
  exact ((HT1.out.trans HT6.out).then HT7.out (fun i hi e => by have := HG0.out; omega)).then hbut9 (fun i hi e => by have := HG0.out; omega)
end Go.Proofs.YtmlladpmecclbaaDoor
/- tree: SetKid, whole. -/
namespace Go.Proofs.YtmlladpmecclbaaDoor
open Go.RowKit

/-- All of these have the bytes of a block. -/
def whl (xss : List (List Nat)) : Bool := xss.all fun x => x.length == 256
theorem whl_true {xss : List (List Nat)} (h : whl xss = true) : ∀ x ∈ xss, x.length = 256 := fun x hx => by
  have := List.all_eq_true.1 h x hx
  simpa using this
theorem whl_of {xss : List (List Nat)} (h : ∀ x ∈ xss, x.length = 256) : whl xss = true := List.all_eq_true.2 (fun x hx => by simpa using h x hx)
theorem whl_not {xss : List (List Nat)} {i : Nat} (h : i < xss.length) (hn : (xss.getD i []).length ≠ 256) : whl xss = false := by
  cases hw : whl xss with
  | false => rfl
  | true =>
    have := whl_true hw (xss.getD i []) (by simp [List.getD, h])
    exact absurd this hn
set_option maxHeartbeats 2000000 in
theorem whole_any {w : World} {v : Value} {xss : List (List Nat)} (h : Ps w v xss) (hlen : xss.length ≤ 1000000) :
    Calls Tryd.prog 22 #[v] w fun e w' => e = .returned (.bool (whl xss)) ∧ w' = w := by
  obtain ⟨ao, cap, rfl, hps⟩ := h.gen
  obtain ⟨n, hn⟩ : ∃ n, n = xss.length := ⟨_, rfl⟩
  obtain ⟨r, hr⟩ : ∃ r, r = whl xss := ⟨_, rfl⟩
  have HR := Hid.mk' hr
  have HN := Hid.mk' hn
  rw [← hn] at hps hlen ⊢
  rw [← hr]
  have HP := Hid.mk' hps
  clear h hps hn hr
  go_enter Tryd.func22, Tryd.ntmps22
  go_wp2
  go_loopw [7] (fun i wr => ∃ k : Nat, k ≤ n ∧ i = .int .i64 k ∧ wr = w ∧ ∀ j, j < k → (xss.getD j []).length = 256) (fun i _ => n - (intOf i).toNat)
  case atStart => exact ⟨0, Nat.zero_le _, rfl, rfl, fun j hj => by omega⟩
  case round =>
    obtain ⟨k, hk, rfl, rfl, hall⟩ := hrel
    have HA := Hid.mk' hall
    clear hall
    by_cases hlt : k < n
    · obtain ⟨b, off, rfl, hb, hc⟩ := HP.out (by omega)
      obtain ⟨u, hu, hbs⟩ := hc k hlt
      obtain ⟨a1, c1, rfl, -⟩ := hbs.gen
      have hcc : wr.cell? ((⟨b, off, none⟩ : Addr).add k) = some (.slice a1 (xss.getD k []).length c1) := by rw [addr_add]; exact hu
      by_cases hl : (xss.getD k []).length = 256
      · have HL := Hid.mk' hl
        rw [hl] at hu hcc
        clear hc hbs hl
        go_wp2
        exact ⟨⟨k + 1, by omega, by go_num, trivial, fun j hj => by
          by_cases hjk : j = k
          · rw [hjk]; exact HL.out
          · exact HA.out j (by omega)⟩, by simp [intOf]; omega⟩
      · have hrf : r = false := by rw [HR.out]; exact whl_not (by rw [← HN.out]; exact hlt) hl
        subst hrf
        generalize (xss.getD k []).length = m at *
        clear hc hbs
        go_wp2
        go_ret
        exact ⟨rfl, rfl⟩
    · have hkn : k = n := by omega
      subst hkn
      have hrt : r = true := by
        rw [HR.out]
        exact whl_of (fun x hx => by
          obtain ⟨i, hi, rfl⟩ := List.mem_iff_getElem.1 hx
          have := HA.out i (by rw [HN.out]; exact hi)
          simpa [List.getD, hi] using this)
      subst hrt
      go_wp2
      go_ret
      exact ⟨rfl, rfl⟩
end Go.Proofs.YtmlladpmecclbaaDoor
/- Rows of blocks of 256 bytes that are written into; rows of blocks that are read. -/
namespace Go.Proofs.YtmlladpmecclbaaDoor
open Go.RowKit

/-- A block of 256 bytes at g, maybe with room behind it. -/
def El (w : World) (u : Value) (g : Nat) (zs : List Nat) : Prop :=
  ∃ cap R, u = .slice (some ⟨g, 0, none⟩) 256 cap ∧ 256 ≤ cap ∧ zs.length = 256 ∧ (∀ z ∈ zs, z < 256) ∧ Blk w g 5 (u8s zs ++ R)
theorem El.but {R : Nat → Prop} {w w' : World} {u : Value} {g : Nat} {zs : List Nat} (h : El w u g zs) (k : But R w w') (hr : ¬ R g) : El w' u g zs := by
  obtain ⟨cap, S, h1, h2, h3, h4, h5⟩ := h
  exact ⟨cap, S, h1, h2, h3, h4, h5.but k hr⟩
theorem El.lt {w : World} {u : Value} {g : Nat} {zs : List Nat} (h : El w u g zs) : g < w.heap.size := by
  obtain ⟨_, _, _, _, _, _, h5⟩ := h
  exact h5.lt
theorem El.bs {w : World} {u : Value} {g : Nat} {zs : List Nat} (h : El w u g zs) : Bs w u zs := by
  obtain ⟨cap, S, rfl, h2, h3, h4, h5⟩ := h
  refine ⟨h4, by omega, .inr ⟨by omega, g, 0, cap, by rw [h3], by omega, h5.lt, fun i hi => ?_⟩⟩
  rw [Nat.zero_add, h5.cell, List.getElem?_append_left (by simpa [u8s] using hi), u8s_get _ _ hi]
theorem El.own {w : World} {u : Value} {g : Nat} {zs : List Nat} (h : El w u g zs) : u.ownBlock = some g := by
  obtain ⟨cap, S, rfl, _⟩ := h
  rfl
theorem El.one {w : World} {u : Value} {g : Nat} {zs : List Nat} (h : El w u g zs) : u.oneCell' = true := by
  obtain ⟨cap, S, rfl, _⟩ := h
  rfl
/-- A row of such blocks, no two of them one. -/
structure Nb (base : Nat) (w : World) (v : Value) (n : Nat) (G : Nat → Nat) (T : Nat → List Nat) : Prop where
  ex : ∃ V : Nat → Value, w.ownsRow 0 22 1 v n ((List.range n).map V) ∧ ∀ i, i < n → El w (V i) (G i) (T i)
  rnew : ∀ k, v.ownBlock = some k → base ≤ k ∧ ∀ i, i < n → G i ≠ k
  gnew : ∀ i, i < n → base ≤ G i
  inj : ∀ i j, i < n → j < n → G i = G j → i = j
theorem Nb.nil (base : Nat) (w : World) (G : Nat → Nat) (T : Nat → List Nat) : Nb base w (.slice none 0 0) 0 G T :=
  ⟨⟨fun _ => undef, World.ownsRow_nil _ _ _ _, fun i hi => absurd hi (Nat.not_lt_zero _)⟩, fun k hk => (by cases hk), fun i hi => absurd hi (Nat.not_lt_zero _), fun i j hi => absurd hi (Nat.not_lt_zero _)⟩
theorem Nb.but {R : Nat → Prop} {base : Nat} {w w' : World} {v : Value} {n : Nat} {G : Nat → Nat} {T : Nat → List Nat} (h : Nb base w v n G T) (k : But R w w') (hr : ∀ j, base ≤ j → j < w.heap.size → ¬ R j) : Nb base w' v n G T := by
  obtain ⟨⟨V, h1, h2⟩, h3, h4, h5⟩ := h
  exact ⟨⟨V, ownsRow_but h1 k (fun j hj => hr j (h3 j hj).1 (h1.lt j hj).2), fun i hi => (h2 i hi).but k (hr _ (h4 i hi) (h2 i hi).lt)⟩, h3, h4, h5⟩
theorem Nb.grow {base : Nat} {w w' : World} {v : Value} {n : Nat} {G : Nat → Nat} {T : Nat → List Nat} (h : Nb base w v n G T) (k : Grow w w') : Nb base w' v n G T := h.but k (fun _ _ _ h => h)
theorem Nb.same {base : Nat} {w : World} {v : Value} {n : Nat} {G : Nat → Nat} {T T' : Nat → List Nat} (h : Nb base w v n G T) (e : ∀ i, i < n → T i = T' i) : Nb base w v n G T' := by
  obtain ⟨⟨V, h1, h2⟩, h3, h4, h5⟩ := h
  exact ⟨⟨V, h1, fun i hi => by rw [← e i hi]; exact h2 i hi⟩, h3, h4, h5⟩
theorem Nb.len {base : Nat} {w : World} {v : Value} {n : Nat} {G : Nat → Nat} {T : Nat → List Nat} (h : Nb base w v n G T) : ∃ a c, v = .slice a n c := by
  obtain ⟨⟨V, h1, _⟩, _⟩ := h
  exact own_sl h1
theorem range_get {α : Type} (f : Nat → α) {n i : Nat} (hi : i < n) : ((List.range n).map f)[i]? = some (f i) := by simp [hi]
/-- One block of it: it may be written into. -/
theorem Nb.opn {base : Nat} {w : World} {v : Value} {n : Nat} {G : Nat → Nat} {T : Nat → List Nat} (h : Nb base w v n G T) {i : Nat} (hi : i < n) :
    ∃ b rc cap R, v = .slice (some ⟨b, 0, none⟩) n rc ∧ w.cell? ⟨b, i, none⟩ = some (.slice (some ⟨G i, 0, none⟩) 256 cap) ∧ 256 ≤ cap ∧ Blk w (G i) 5 (u8s (T i) ++ R) ∧ (T i).length = 256 ∧ (∀ z ∈ T i, z < 256) ∧ b ≠ G i ∧ base ≤ G i ∧
      ∀ w' zs, zs.length = 256 → (∀ z ∈ zs, z < 256) → Blk w' (G i) 5 (u8s zs ++ R) → But (· = G i) w w' → Nb base w' v n G (upd T i zs) := by
  obtain ⟨⟨V, h1, h2⟩, h3, h4, h5⟩ := h
  have hn : ((List.range n).map V).length = n := by simp
  obtain ⟨b, rc, hv, hc⟩ := row_cellP (e := 22) (v := v) (L := (List.range n).map V) (by rw [hn]; exact h1) (by rw [hn]; omega)
  rw [hn] at hv
  obtain ⟨cap, R, e1, e2, e3, e4, e5⟩ := h2 i hi
  have hbo : v.ownBlock = some b := by rw [hv]; rfl
  refine ⟨b, rc, cap, R, hv, by rw [← e1]; exact hc i _ (range_get V hi), e2, e5, e3, e4, fun e => (h3 b hbo).2 i hi e.symm, h4 i hi, fun w' zs hl hz hb' k => ?_⟩
  refine ⟨⟨V, ownsRow_but h1 k (fun j hj e => (h3 j hj).2 i hi e.symm), fun j hj => ?_⟩, h3, h4, h5⟩
  by_cases hji : j = i
  · subst hji
    rw [upd_same]
    exact ⟨cap, R, e1, e2, hl, hz, hb'⟩
  · rw [upd_other _ _ hji]
    exact (h2 j hj).but k (fun e => hji (h5 j i hj hi e))
/-- One more block behind them. -/
theorem Nb.push {base : Nat} {w w' : World} {v v' u : Value} {n g : Nat} {G : Nat → Nat} {T : Nat → List Nat} {zs : List Nat} (h : Nb base w v n G T) (hu : El w u g zs) (hg : base ≤ g) (hb : base ≤ w.heap.size) (hne : ∀ i, i < n → G i ≠ g) (hr : v.ownBlock ≠ some g)
    (hap : Appd w w' 22 1 v v' (n + 1) ((List.range n).map (h.ex.choose) ++ [u])) : Nb base w' v' (n + 1) (upd G n g) (upd T n zs) := by
  have hV := h.ex.choose_spec
  generalize h.ex.choose = V at *
  obtain ⟨h1, h2⟩ := hV
  obtain ⟨_, h3, h4, h5⟩ := h
  have hold : ∀ i, i < n → ¬ (v.ownBlock = some (G i)) := fun i hi e => (h3 _ e).2 i hi rfl
  refine ⟨⟨upd V n u, ?_, fun i hi => ?_⟩, fun k hk => ?_, fun i hi => ?_, fun i j hi hj e => ?_⟩
  · have e : (List.range (n + 1)).map (upd V n u) = (List.range n).map V ++ [u] := by
      rw [List.range_succ, List.map_append, List.map_singleton, upd_same]
      congr 1
      refine List.map_congr_left (fun i hi => upd_other _ _ ?_)
      have := List.mem_range.1 hi
      omega
    rw [e]
    exact hap.own
  · by_cases hin : i = n
    · subst hin
      rw [upd_same, upd_same, upd_same]
      exact hu.but hap.but (fun e => hr e)
    · rw [upd_other _ _ hin, upd_other _ _ hin, upd_other _ _ hin]
      exact (h2 i (by omega)).but hap.but (fun e => hold i (by omega) e)
  · rcases hap.at' with e | e
    · rw [e] at hk
      refine ⟨(h3 k hk).1, fun i hi => ?_⟩
      by_cases hin : i = n
      · rw [hin, upd_same]; exact fun e => hr (by rw [e]; exact hk)
      · rw [upd_other _ _ hin]; exact (h3 k hk).2 i (by omega)
    · rw [e] at hk
      cases hk
      refine ⟨hb, fun i hi => ?_⟩
      by_cases hin : i = n
      · rw [hin, upd_same]; have := hu.lt; omega
      · rw [upd_other _ _ hin]; have := (h2 i (by omega)).lt; omega
  · by_cases hin : i = n
    · rw [hin, upd_same]; exact hg
    · rw [upd_other _ _ hin]; exact h4 i (by omega)
  · by_cases hin : i = n
    · by_cases hjn : j = n
      · omega
      · rw [hin, upd_same, upd_other _ _ hjn] at e
        exact absurd e.symm (hne j (by omega))
    · by_cases hjn : j = n
      · rw [hjn, upd_same, upd_other _ _ hin] at e
        exact absurd e (hne i (by omega))
      · rw [upd_other _ _ hin, upd_other _ _ hjn] at e
        exact h5 i j (by omega) (by omega) e
theorem Nb.row {base : Nat} {w : World} {v : Value} {n : Nat} {G : Nat → Nat} {T : Nat → List Nat} (h : Nb base w v n G T) : w.ownsRow 0 22 1 v n ((List.range n).map h.ex.choose) := h.ex.choose_spec.1
/-- A row of blocks that are read. -/
theorem BRow.ps {w : World} {Fr G : Nat → Prop} {v : Value} {L : List BE} (h : BRow w Fr G v L) : Ps w v (L.map (·.2)) := by
  obtain ⟨ao, cap, rfl, hrow⟩ := h.row.shape
  by_cases h0 : 0 < L.length
  · obtain ⟨g, rfl, _, hg, hc⟩ := hrow h0
    refine .inr ⟨by simpa using h0, g, 0, cap, by rw [List.length_map], hg, fun i hi => ?_⟩
    rw [List.length_map] at hi
    refine ⟨(L[i]).1, ?_, ?_⟩
    · rw [Nat.zero_add]
      exact hc i _ (by simp [hi])
    · have := (h.el (L[i]) (List.getElem_mem hi)).1
      simpa [List.getD, hi] using this
  · have : L = [] := List.eq_nil_of_length_eq_zero (by omega)
    subst this
    cases ao with
    | none =>
      obtain ⟨h1, ⟨e, _⟩ | ⟨g, c, cur, e, _⟩⟩ := h.row.own
      · exact .inl ⟨rfl, .inl e⟩
      · cases e
    | some a => exact .inl ⟨rfl, .inr ⟨a, cap, rfl⟩⟩
theorem Nb.brow {base : Nat} {w : World} {v : Value} {n : Nat} {G : Nat → Nat} {T : Nat → List Nat} (h : Nb base w v n G T) {F : Nat → Prop} (hF : ∀ j, base ≤ j → j < w.heap.size → F j) : ∃ V : Nat → Value, BRow w F F v ((List.range n).map fun i => (V i, T i)) := by
  obtain ⟨⟨V, h1, h2⟩, h3, h4, h5⟩ := h
  refine ⟨V, ⟨⟨?_, fun k hk => hF k (h3 k hk).1 (h1.lt k hk).2⟩, fun e he => ?_⟩⟩
  · rw [List.length_map, List.length_range, List.map_map]
    exact h1
  · obtain ⟨i, hi, rfl⟩ := List.mem_map.1 he
    have hi' := List.mem_range.1 hi
    refine ⟨(h2 i hi').bs, fun _ j hj => ?_⟩
    rw [(h2 i hi').own] at hj
    cases hj
    exact hF _ (h4 i hi') (h2 i hi').lt
theorem Nb.ps {base : Nat} {w : World} {v : Value} {n : Nat} {G : Nat → Nat} {T : Nat → List Nat} (h : Nb base w v n G T) : Ps w v ((List.range n).map T) := by
  obtain ⟨V, hb⟩ := h.brow (F := fun _ => True) (fun _ _ _ => trivial)
  have := hb.ps
  rw [List.map_map] at this
  exact this
end Go.Proofs.YtmlladpmecclbaaDoor
/- tree: digests. -/
namespace Go.Proofs.YtmlladpmecclbaaDoor
open Go.RowKit

/-- What is noted of a row of blocks, and their digests. -/
def noteL (f : Int) : List (List Nat) → List Pr
  | [] => []
  | x :: xs => (inp f x, bd f x) :: noteL (f + 1) xs
theorem noteL_app (a b : List (List Nat)) : ∀ f, noteL f (a ++ b) = noteL f a ++ noteL (f + a.length) b := by
  induction a with
  | nil => intro f; simp [noteL]
  | cons x a ih => intro f; simp only [List.cons_append, noteL, ih, List.length_cons]; rw [show f + 1 + (a.length : Int) = f + ((a.length + 1 : Nat) : Int) by omega]
theorem noteL_len (a : List (List Nat)) : ∀ f, (noteL f a).length = a.length := by
  induction a with
  | nil => intro f; rfl
  | cons x a ih => intro f; simp [noteL, ih]
theorem noteL_take {a : List (List Nat)} {k : Nat} (h : k < a.length) (f : Int) : noteL f (a.take (k + 1)) = noteL f (a.take k) ++ [(inp (f + k) (a.getD k []), bd (f + k) (a.getD k []))] := by
  have e : a.take (k + 1) = a.take k ++ [a.getD k []] := by rw [List.take_add_one]; simp [List.getD, h]
  rw [e, noteL_app, List.length_take, Nat.min_eq_left (by omega)]
  rfl
theorem noteL_get {a : List (List Nat)} : ∀ {k : Nat} (f : Int), k < a.length → (noteL f a)[k]? = some (inp (f + k) (a.getD k []), bd (f + k) (a.getD k [])) := by
  induction a with
  | nil => intro k f h; simp at h
  | cons x a ih =>
    intro k f h
    cases k with
    | zero => simp [noteL]
    | succ k =>
      have := ih (k := k) (f + 1) (by simpa using h)
      simp only [noteL, List.getElem?_cons_succ, this]
      rw [show f + 1 + (k : Int) = f + ((k + 1 : Nat) : Int) by omega]
      simp
def bdL (f : Int) (a : List (List Nat)) : List (List Nat) := (noteL f a).map (·.2)
theorem bdL_len (f : Int) (a : List (List Nat)) : (bdL f a).length = a.length := by simp [bdL, noteL_len]
theorem bdL_take {a : List (List Nat)} {k : Nat} (h : k < a.length) (f : Int) : bdL f (a.take (k + 1)) = bdL f (a.take k) ++ [bd (f + k) (a.getD k [])] := by
  unfold bdL; rw [noteL_take h, List.map_append]; rfl
theorem bdL_get {a : List (List Nat)} {k : Nat} (f : Int) (h : k < a.length) : (bdL f a).getD k [] = bd (f + k) (a.getD k []) := by
  unfold bdL; simp [List.getD, noteL_get f h]
theorem noteL_mem {a : List (List Nat)} : ∀ {f : Int} {p : Pr}, p ∈ noteL f a → ∃ i x, x ∈ a ∧ p = (inp i x, bd i x) := by
  induction a with
  | nil => intro f p h; cases h
  | cons y a ih =>
    intro f p h
    rcases List.mem_cons.1 h with rfl | h
    · exact ⟨f, y, List.mem_cons_self, rfl⟩
    · obtain ⟨i, x, hx, e⟩ := ih h
      exact ⟨i, x, List.mem_cons_of_mem _ hx, e⟩
theorem bdL_wf {f : Int} {a : List (List Nat)} : ∀ d ∈ bdL f a, wf32 d := by
  intro d hd
  obtain ⟨p, hp, rfl⟩ := List.mem_map.1 hd
  obtain ⟨i, x, _, rfl⟩ := noteL_mem hp
  exact bd_wf _ _
/-- What is left where a row of digests was made. -/
structure DgTo (w : World) (own : Owner) (lv : Value) (P : List Pr) (v : Value) (L : List (List Nat)) (w' : World) : Prop where
  but : But (fun b => own b ≠ .none) w w'
  ex : ∃ own', Ext own own' ∧ Fresh w own own' ∧ LgO w' own' lv P ∧ ∀ k, v.ownBlock = some k → w.heap.size ≤ k ∧ own' k = .none
  row : w'.ownsRow 0 31 32 v L.length (L.flatMap u8s)
theorem infD32 : (Tryd.prog.info? 31).map (fun i => (i.zero, i.size, i.bytes)) = some (some (.agg (u8s z32).toArray), 32, 32) := by kernel_rfl
theorem DgTo.more {w wr w1 w4 : World} {own : Owner} {lv v v4 : Value} {P P' : List Pr} {L : List (List Nat)} {D : List Nat} {own1 : Owner} (h : DgTo w own lv P v L wr) (q1 : Ext own own1) (q2 : Fresh w own own1) (q4 : ∀ k, v.ownBlock = some k → w.heap.size ≤ k ∧ own1 k = .none)
    (h1 : LgOTo wr own1 lv P' w1) (hap : Appd (w1.alloc (.cells (u8s D).toArray 31)) w4 31 32 v v4 (L.length + 1) (L.flatMap u8s ++ u8s D)) : DgTo w own lv P' v4 (L ++ [D]) w4 := by
  obtain ⟨hb, own2, r1, r2, r3⟩ := h1
  have hal : Grow w1 (w1.alloc (.cells (u8s D).toArray 31)) := (But.refl _ w1).alloc _
  have hs1 := h.but.size
  have hs2 := hb.size
  have hvlt : ∀ k, v.ownBlock = some k → k < wr.heap.size := fun k hk => (h.row.lt k hk).2
  have hv2 : ∀ k, v.ownBlock = some k → own2 k = .none := fun k hk => by
    by_cases hq : own2 k = own1 k
    · rw [hq]; exact (q4 k hk).2
    · exact absurd (r2 k hq) (by have := hvlt k hk; omega)
  refine ⟨?_, ⟨own2, q1.trans r1, fun b hb2 => ?_, (r3.grow hal).but hap.but (fun b hb2 e => hb2 (hv2 b e)), fun k hk => ?_⟩, ?_⟩
  · refine ((h.but.then hb (fun i hi e => ?_)).trans (hal.mono (fun _ _ h => h.elim))).then hap.but (fun i hi e => ?_)
    · by_cases hq : own1 i = own i
      · rw [← hq]; exact e
      · exact absurd (q2 i hq) (by omega)
    · have := (q4 i e).1; omega
  · by_cases hq : own1 b = own b
    · exact Nat.le_trans hs1 (r2 b (by rw [hq]; exact hb2))
    · exact q2 b hq
  · rcases hap.at' with e | e
    · rw [e] at hk; exact ⟨(q4 k hk).1, hv2 k hk⟩
    · rw [e] at hk
      cases hk
      have : w1.heap.size ≤ (w1.alloc (.cells (u8s D).toArray 31)).heap.size := hal.size
      exact ⟨by omega, r3.top _ this⟩
  · rw [List.length_append, List.length_singleton, List.flatMap_append, List.flatMap_singleton]
    exact hap.own
set_option maxRecDepth 100000 in
set_option maxHeartbeats 4000000 in
theorem digests_any {w : World} {own : Owner} {lv : Value} {P : List Pr} {v : Value} {xss : List (List Nat)} {f : Int} (h : LgO w own lv P) (hst : ∀ w', But (fun b => own b ≠ .none) w w' → Kw w' ∧ Hw w' ∧ Ps w' v xss)
    (hx : ∀ x ∈ xss, x.length ≤ 300) (hn : P.length + xss.length ≤ 100000) (hf0 : 0 ≤ f) (hf1 : f ≤ 1000000) :
    Calls Tryd.prog 23 #[lv, .int .i64 f, v] w fun e w' => ∃ v', e = .returned v' ∧ DgTo w own lv (P ++ noteL f xss) v' (bdL f xss) w' := by
  obtain ⟨ao, cap, hve, -⟩ := (hst w (But.refl _ w)).2.2.gen
  obtain ⟨n, hnn⟩ : ∃ n, n = xss.length := ⟨_, rfl⟩
  rw [← hnn] at hve
  subst hve
  have HST := Hid.mk' hst
  have HX := Hid.mk' hx
  have HN := Hid.mk' hnn
  have HP : Hid (P.length + n ≤ 100000) := by show _ ≤ _; omega
  have hn1 : n ≤ 100000 := by omega
  have H0 : Hid (DgTo w own lv (P ++ noteL f (xss.take 0)) (.slice none 0 0) (bdL f (xss.take 0)) w) :=
    ⟨But.refl _ _, ⟨own, Ext.refl _, Fresh.refl _ _, by simpa [noteL] using h, fun k hk => by cases hk⟩, World.ownsRow_nil _ _ _ _⟩
  clear h hst hx hnn hn
  go_enter Tryd.func23, Tryd.ntmps23
  go_wp2
  go_loopw [7, 12] (fun xv iv wr => ∃ (k : Nat) (r : Value), r = xv ∧ k ≤ n ∧ iv = .int .i64 k ∧ DgTo w own lv (P ++ noteL f (xss.take k)) r (bdL f (xss.take k)) wr) (fun _ iv _ => n - (intOf iv).toNat)
  case atStart => exact ⟨0, _, rfl, Nat.zero_le _, rfl, H0.out⟩
  case round =>
    obtain ⟨k, r, hr, hk, rfl, hdg⟩ := hrel
    subst hr
    have HDG := Hid.mk' hdg
    by_cases hlt : k < n
    · obtain ⟨hkw, hhw, hps⟩ := HST.out wr hdg.but
      obtain ⟨ao', cap', e', hps⟩ := hps.gen
      simp only [Value.slice.injEq] at e'
      obtain ⟨rfl, -, rfl⟩ := e'
      obtain ⟨b, off, rfl, hb, hc⟩ := hps (by rw [← HN.out]; omega)
      obtain ⟨u, hu, hbs⟩ := hc k (by rw [← HN.out]; exact hlt)
      obtain ⟨x, hx⟩ : ∃ x, x = xss.getD k [] := ⟨_, rfl⟩
      rw [← hx] at hbs
      have hxm : x ∈ xss := by rw [hx]; simp [List.getD, show k < xss.length by rw [← HN.out]; exact hlt]
      have hxl := HX.out x hxm
      obtain ⟨own1, q1, q2, q3, q4⟩ := hdg.ex
      have hpl : (P ++ noteL f (xss.take k)).length < 1000000 := by
        have := HP.out; rw [List.length_append, noteL_len, List.length_take]; omega
      have HD := Hid.mk' (tdig_any (x := f + k) q3 hbs hkw hhw (by omega) hpl)
      have HQ1 := Hid.mk' q1
      have HQ2 := Hid.mk' q2
      have HQ4 := Hid.mk' q4
      obtain ⟨a1, n1, c1, rfl⟩ := hbs.sl
      have hcc : wr.cell? ((⟨b, off, none⟩ : Addr).add k) = some (.slice a1 n1 c1) := by rw [addr_add]; exact hu
      obtain ⟨D, hD⟩ : ∃ D, D = bd (f + k) x := ⟨_, rfl⟩
      have HDW : Hid (wf32 D) := by show wf32 _; rw [hD]; exact bd_wf _ _
      rw [← hD] at HD
      have hnt : noteL f (xss.take (k + 1)) = noteL f (xss.take k) ++ [(inp (f + k) x, D)] := by rw [noteL_take (by rw [← HN.out]; exact hlt), ← hx, hD]
      have hbt : bdL f (xss.take (k + 1)) = bdL f (xss.take k) ++ [D] := by rw [bdL_take (by rw [← HN.out]; exact hlt), ← hx, hD]
      have HNT := Hid.mk' hnt
      have HBT := Hid.mk' hbt
      have HBL : Hid ((bdL f (xss.take k)).length = k) := by show _ = _; rw [bdL_len, List.length_take, ← HN.out]; omega
      have hwf : IntKind.i64.wrap (f + (k : Int)) = f + (k : Int) := wrapI (by omega) (by omega)
      have HROW := Hid.mk' hdg.row
      obtain ⟨N, hN⟩ : ∃ N, N = (u8s D).toArray := ⟨_, rfl⟩
      have hdk : dkey D = .agg N := by rw [hN]; rfl
      rw [hdk] at HD
      have HN2 := Hid.mk' hN
      clear hc hcc hps hbs hx hxm hxl q1 q2 q3 q4 hpl hD hnt hbt hdg hN hdk hkw hhw hwf
      go_wp2_with fail
      refine Calls.mono HD.out ?_
      rintro e w1 ⟨rfl, hto⟩
      have HTO := Hid.mk' hto
      have HAL : Hid (Grow w1 (w1.alloc (.cells N 31))) := (But.refl _ w1).alloc _
      have HNB : Hid (∀ j, r.ownBlock = some j → own1 j = .none ∧ j < wr.heap.size) := fun j hj => ⟨(HQ4.out j hj).2, (HROW.out.lt j hj).2⟩
      have HRW1 : Hid (w1.ownsRow 0 31 32 r (bdL f (xss.take k)).length ((bdL f (xss.take k)).flatMap u8s)) := ownsRow_but HROW.out hto.but (fun j hj e => e (HNB.out j hj).1)
      have HBK : Hid (Blk (w1.alloc (.cells N 31)) w1.heap.size 31 (u8s D)) := by show Blk _ _ _ _; rw [HN2.out]; exact Blk.new rfl
      obtain ⟨ra, rc, hre⟩ := own_sl HROW.out
      rw [HBL.out] at hre HRW1
      subst hre
      clear hto HROW
      go_wp2_with (first
        | (refine wpList_runH rfl (exec_row1 (t := 58) (e := 31) (v := .agg N) Tryd.underlying58 infD32 (by decide) (by decide) rfl rfl (by rw [HN2.out]; show (u8s D).toArray.size = 32; simp [u8s, HDW.out.1])) ?_)
        | (refine wpList_someH rfl (exec_append (v := .slice ra k rc) (n := k) (xs := (bdL f (xss.take k)).flatMap u8s) (news := u8s D) Tryd.underlying58 infD32 (by simp [u8s, z32, Value.cells]) (by decide) rfl rfl (ownsRow_grow HRW1.out HAL.out) rfl (by simp [u8s, HDW.out.1]) (fun j u hj => HBK.out.cells0 j u hj) (u8s_one _) (by have := HP.out; omega) (by decide)) ?_; intro v4 w4 hap)
        | fail)
      have hap' : Appd (w1.alloc (.cells (u8s D).toArray 31)) w4 31 32 (.slice ra k rc) v4 ((bdL f (xss.take k)).length + 1) ((bdL f (xss.take k)).flatMap u8s ++ u8s D) := by
        rw [HBL.out, ← HN2.out]; exact hap
      have hgo := DgTo.more HDG.out HQ1.out HQ2.out HQ4.out HTO.out hap'
      rw [List.append_assoc, ← HNT.out, ← HBT.out] at hgo
      exact ⟨⟨k + 1, v4, rfl, by omega, by go_num, hgo⟩, by simp [intOf]; omega⟩
    · have hkn : k = n := by omega
      subst hkn
      have e : xss.take k = xss := by rw [HN.out]; exact List.take_length
      rw [e] at hdg
      have HDG2 := Hid.mk' hdg
      clear HDG hdg
      go_wp2
      go_ret
      exact ⟨_, rfl, HDG2.out⟩
end Go.Proofs.YtmlladpmecclbaaDoor
/- tree: above. -/
namespace Go.Proofs.YtmlladpmecclbaaDoor
open Go.RowKit

def z256 : List Nat := List.replicate 256 0
theorem z256_len : z256.length = 256 := List.length_replicate
theorem z256_lt : ∀ z ∈ z256, z < 256 := fun z hz => by rw [List.eq_of_mem_replicate hz]; decide
theorem kid_z {a : Nat} (h : a < 8) : kidL z256 a = z32 := by
  unfold kidL z256 z32
  rw [List.drop_replicate, List.take_replicate, Nat.min_eq_left (by omega)]
/-- The nodes above so many of these digests. -/
def abv (L : List (List Nat)) : Nat → Nat → List Nat
  | 0 => fun _ => z256
  | k + 1 => upd (abv L k) (k / 8) (setK (abv L k (k / 8)) (k % 8) (L.getD k []))
theorem abv_ok {L : List (List Nat)} (hL : ∀ d ∈ L, wf32 d) : ∀ k, k ≤ L.length → ∀ j, (abv L k j).length = 256 ∧ ∀ z ∈ abv L k j, z < 256 := by
  intro k
  induction k with
  | zero => intro _ j; exact ⟨z256_len, z256_lt⟩
  | succ k ih =>
    intro hk j
    have hm : L.getD k [] ∈ L := by simp [List.getD, show k < L.length by omega]
    have hd := hL _ hm
    obtain ⟨h1, h2⟩ := ih (by omega) (k / 8)
    unfold abv
    by_cases hj : j = k / 8
    · rw [hj, upd_same]
      exact ⟨by rw [setK_len (by omega) hd.1, h1], setK_lt h2 hd.2⟩
    · rw [upd_other _ _ hj]; exact ih (by omega) j
theorem abv_kid {L : List (List Nat)} (hL : ∀ d ∈ L, wf32 d) : ∀ k, k ≤ L.length → ∀ j a, a < 8 → kidL (abv L k j) a = if 8 * j + a < k then L.getD (8 * j + a) [] else z32 := by
  intro k
  induction k with
  | zero => intro _ j a ha; rw [if_neg (by omega)]; exact kid_z ha
  | succ k ih =>
    intro hk j a ha
    have hm : L.getD k [] ∈ L := by simp [List.getD, show k < L.length by omega]
    have hd := hL _ hm
    have h1 := (abv_ok hL k (by omega) (k / 8)).1
    have ihj := ih (by omega) j a ha
    unfold abv
    by_cases hj : j = k / 8
    · subst hj
      rw [upd_same]
      by_cases hak : a = k % 8
      · subst hak
        rw [kid_set (by omega) hd.1, if_pos (by omega)]
        congr 1; omega
      · rw [kid_other (by omega) hd.1 hak, ihj]
        by_cases hlt : 8 * (k / 8) + a < k
        · rw [if_pos hlt, if_pos (by omega)]
        · rw [if_neg hlt, if_neg (by omega)]
    · rw [upd_other _ _ hj, ihj]
      by_cases hlt : 8 * j + a < k
      · rw [if_pos hlt, if_pos (by omega)]
      · rw [if_neg hlt, if_neg (by omega)]
theorem abv_new {L : List (List Nat)} : ∀ k j, k ≤ 8 * j → abv L k j = z256 := by
  intro k
  induction k with
  | zero => intro j _; rfl
  | succ k ih =>
    intro j hj
    unfold abv
    rw [upd_other _ _ (by omega), ih j (by omega)]
theorem z256v (w : World) : (zeroValue 5).run Tryd.prog w = .ok (.int .u8 0) w := by kernel_rfl
set_option maxRecDepth 100000 in
set_option maxHeartbeats 8000000 in
theorem above_any {w : World} {F : Nat → Prop} {v : Value} {L : List (List Nat)} (h : RowOf w F 31 32 v L.length (L.flatMap u8s)) (hL : ∀ d ∈ L, wf32 d) (hl : L.length ≤ 100000) :
    Calls Tryd.prog 24 #[v] w fun e w' => ∃ v' G, e = .returned v' ∧ Nb w.heap.size w' v' ((L.length + 7) / 8) G (abv L L.length) ∧ Grow w w' := by
  obtain ⟨i0, hi, hz0, hz1, hz2⟩ := info_parts u8info
  obtain ⟨ao, cap, rfl, hc⟩ := h.shape
  obtain ⟨Z, hZ⟩ : ∃ Z, Z = u8s z32 := ⟨_, rfl⟩
  have hz := z32v
  rw [← hZ] at hz
  have HZL : Hid (Z.length = 32) := by show _ = _; rw [hZ]; rfl
  obtain ⟨n, hn⟩ : ∃ n, n = L.length := ⟨_, rfl⟩
  have HL := Hid.mk' hL
  have HN := Hid.mk' hn
  have HC : Hid (∀ k, k < n → ∃ b, ao = some ⟨b, 0, none⟩ ∧ b < w.heap.size ∧ ∀ j u, (u8s (L.getD k []))[j]? = some u → w.cell? ⟨b, k * 32 + j, none⟩ = some u) := fun k hk => by
    obtain ⟨b, e, _, hb, hcc⟩ := hc (by omega)
    refine ⟨b, e, hb, fun j u hu => hcc _ u ?_⟩
    have hkl : k < L.length := by omega
    exact flat_at L (fun e he => by simp [u8s, (hL e he).1]) k (L.getD k []) j u (by simp [List.getD, hkl]) hu
  rw [← hn] at hl ⊢
  have H0 : Hid (Nb w.heap.size w (.slice none 0 0) 0 (fun _ => 0) (abv L 0)) := Nb.nil _ _ _ _
  clear h hc hZ hn hL
  go_enter Tryd.func24, Tryd.ntmps24
  go_wp2
  go_loopw [3, 9] (fun xv iv wr => ∃ (k : Nat) (r : Value), r = xv ∧ k ≤ n ∧ iv = .int .i64 k ∧ ∃ G, Nb w.heap.size wr r ((k + 7) / 8) G (abv L k) ∧ Grow w wr) (fun _ iv _ => n - (intOf iv).toNat)
  case atStart => exact ⟨0, _, rfl, Nat.zero_le _, rfl, _, H0.out, But.refl _ _⟩
  case round =>
    obtain ⟨k, r, hr, hk, rfl, G, hnb, hgr⟩ := hrel
    subst hr
    have HNB := Hid.mk' hnb
    have HGR := Hid.mk' hgr
    by_cases hlt : k < n
    · obtain ⟨b, rfl, hb, hcc⟩ := HC.out k hlt
      obtain ⟨D, hD⟩ : ∃ D, D = L.getD k [] := ⟨_, rfl⟩
      rw [← hD] at hcc
      have HDW : Hid (wf32 D) := HL.out D (by rw [hD]; simp [List.getD, show k < L.length by rw [← HN.out]; exact hlt])
      have HD := Hid.mk' hD
      have HCD : Hid (∀ j u, (u8s D)[j]? = some u → wr.cell? ((⟨b, k * 32, none⟩ : Addr).add j) = some u) := fun j u hu => by
        rw [addr_add]
        exact (World.cell?_of_block (hgr.block b hb (fun h => h))).trans (hcc j u hu)
      obtain ⟨N, hN⟩ : ∃ N, N = (u8s D).toArray := ⟨_, rfl⟩
      have HNE := Hid.mk' hN
      have hw8 : Int.tmod (k : Int) 8 = ((k % 8 : Nat) : Int) := by rw [Int.tmod_eq_emod_of_nonneg (by omega)]; omega
      have HBZ : Hid (Blk (wr.alloc (.cells Z.toArray 31)) wr.heap.size 31 Z) := Blk.new rfl
      obtain ⟨m, hm⟩ : ∃ m, m = (k + 7) / 8 := ⟨_, rfl⟩
      have HM := Hid.mk' hm
      rw [← hm] at hnb HNB
      obtain ⟨ra, rc, hre⟩ := hnb.len
      clear hm hcc hnb hgr hb hD hN
      obtain ⟨gv, hgv⟩ : ∃ g, g = wr.heap.size := ⟨_, rfl⟩
      have HGV := Hid.mk' hgv
      go_upto_region 5 with (first
        | (refine wpList_load_cells rfl _ _ rfl ⟨b, k * 32, none⟩ rfl (u8s D) _ HCD.out ukt rfl (by rw [i32]; simp [u8s, HDW.out.1]) ?_)
        | (refine wpList_store_u8s i32 rfl _ _ rfl wr.heap.size D HDW.out.1 rfl (by exact rfl) Z HZL.out HBZ.out ?_; intro w2 hb2 hbut2)
        | fail)
      have HT2 : Hid (Grow wr w2) := ((But.refl _ wr).alloc _).then hbut2 (fun i hi e => by omega)
      rw [← hgv] at hb2 ⊢
      have HB2 := Hid.mk' hb2
      have HNB2 := Hid.mk' (HNB.out.grow HT2.out)
      clear hbut2 hb2 HBZ hgv HCD
      by_cases h8 : k % 8 = 0
      · rw [h8] at hw8
        subst hre
        go_upto_region 8 with (first
          | (at_make; refine wpList_make_full _ rfl _ _ 22 rfl w2.heap.size 5 i0 (.int .u8 0) 1 Tryd.underlying22 hi hz0 hz1 .i64 .i64 _ _ 256 rfl rfl (by go_num) (by go_num) (by rw [hz2]; omega) (by unfold maxLen; omega) (Nat.le_refl _) ?_; intro w3 hown hgrow; have HT3 : Hid (Grow w2 w3) := (But.refl _ _).grown hgrow (by simp); have HO3 := Hid.mk' (own_block hown); have HNB3 := Hid.mk' ((HNB2.out.grow HT3.out).grow ((But.refl (fun _ => False) w3).alloc (.cells #[.slice (some ⟨w2.heap.size, 0, none⟩) 256 256] 22))); have HBL : Hid (Blk (w3.alloc (.cells #[.slice (some ⟨w2.heap.size, 0, none⟩) 256 256] 22)) w3.heap.size 22 [.slice (some ⟨w2.heap.size, 0, none⟩) 256 256]) := Blk.new rfl)
          | (refine wpList_someH rfl (exec_append (v := .slice ra m rc) (n := m) (xs := (List.range m).map HNB3.out.ex.choose) (news := [.slice (some ⟨w2.heap.size, 0, none⟩) 256 256]) Tryd.underlying26 infS rfl (by decide) rfl rfl HNB3.out.row rfl rfl (fun j u hj => HBL.out.cells0 j u hj) (fun u hu => by rw [show u = .slice (some ⟨w2.heap.size, 0, none⟩) 256 256 by simpa using hu]; rfl) (by have := HM.out; omega) (by decide)) ?_; intro v5 w5 hap)
          | fail)
        -- TAIL A
        obtain ⟨q, hq⟩ : ∃ q, q = k / 8 := ⟨_, rfl⟩
        have hmq : m = q := by have := HM.out; omega
        have HT4 : Hid (Grow w2 (w3.alloc (.cells #[.slice (some ⟨w2.heap.size, 0, none⟩) 256 256] 22))) := HT3.out.alloc _
        have hel : El (w3.alloc (.cells #[.slice (some ⟨w2.heap.size, 0, none⟩) 256 256] 22)) (.slice (some ⟨w2.heap.size, 0, none⟩) 256 256) w2.heap.size z256 := by
          have hb : Blk w3 w2.heap.size 5 (u8s z256) := by
            have := HO3.out
            rw [made_zero] at this
            exact this
          exact ⟨256, [], rfl, Nat.le_refl _, z256_len, z256_lt, by rw [List.append_nil]; exact hb.but (R := fun _ => False) ((But.refl _ w3).alloc _) (fun h => h)⟩
        have hw2 : w.heap.size ≤ w2.heap.size := Nat.le_trans HGR.out.size HT2.out.size
        have hlow : ∀ i, i < m → G i ≠ w2.heap.size := fun i hi e => by
          obtain ⟨V, -, hV⟩ := HNB2.out.ex
          have := (hV i hi).lt
          omega
        have hrow2 : (Value.slice ra m rc).ownBlock ≠ some w2.heap.size := fun e => by
          have := (HNB2.out.row.lt _ e).2
          omega
        have hpu := Nb.push HNB3.out hel hw2 (Nat.le_trans hw2 HT4.out.size) hlow hrow2 hap
        have hpu2 : Nb w.heap.size w5 v5 (q + 1) (upd G m w2.heap.size) (abv L k) := by
          rw [← hmq]
          refine hpu.same (fun i hi => ?_)
          by_cases him : i = m
          · rw [him, upd_same, abv_new k m (by omega)]
          · rw [upd_other _ _ him]
        have HNB5 := Hid.mk' hpu2
        obtain ⟨G5, hG5⟩ : ∃ G5, G5 = upd G m w2.heap.size := ⟨_, rfl⟩
        rw [← hG5] at HNB5
        have hrw3 : ∀ j, (Value.slice ra m rc).ownBlock = some j → w.heap.size ≤ j ∧ j ≠ gv := fun j hj => by
          refine ⟨(HNB2.out.rnew j hj).1, fun e => ?_⟩
          have := (HNB.out.row.lt j hj).2
          have := HGV.out
          omega
        have HG5 : Hid (Grow w w5) := (((HGR.out.trans HT2.out).trans HT4.out)).then hap.but (fun i hi e => by have := (hrw3 i e).1; omega)
        have HB5 := Hid.mk' ((HB2.out.but HT4.out (fun h => h)).but hap.but (fun e => (hrw3 _ e).2 rfl))
        have HGE : Hid (∀ i, i < q + 1 → w.heap.size ≤ G5 i) := HNB5.out.gnew
        have HGW : Hid (∀ i, i < q + 1 → G5 i ≠ gv) := fun i hi => by
          rw [hG5]
          by_cases him : i = m
          · rw [him, upd_same]; have := HB2.out.lt; omega
          · rw [upd_other _ _ him]
            obtain ⟨V, -, hV⟩ := HNB.out.ex
            have := (hV i (by omega)).lt
            have := HGV.out
            omega
        have HAT : Hid ((0 : Int) = ((k % 8 : Nat) : Int)) := by show _ = _; rw [h8]; rfl
        obtain ⟨va, vc, hv5⟩ := HNB5.out.len
        subst hv5
        clear hpu hpu2 hap hel hlow hrow2 HNB3 HBL HO3 HNB2 hown hgrow HT3 hG5 hrw3 hw2 HNB HB2
        obtain ⟨bb, rc5, cp, R, hve, hcell, hcp, hblk, htl, htz, hbg, hgb, hset⟩ := HNB5.out.opn (i := q) (by omega)
        obtain ⟨g, hgq⟩ : ∃ g, g = G5 q := ⟨_, rfl⟩
        rw [← hgq] at hcell hblk hbg hgb hset
        have HGQ := Hid.mk' hgq
        have HBG := Hid.mk' hbg
        have HVG : Hid (¬ gv = g) := fun e => HGW.out q (by omega) (by rw [← hgq]; exact e.symm)
        simp only [Value.slice.injEq, true_and] at hve
        obtain ⟨rfl, rfl⟩ := hve
        have HSET := Hid.mk' hset
        have HCELL := Hid.mk' hcell
        have hbbl := cell_lt hcell
        have HLY := Hid.mk' (fun w6 (h6 : Grow w5 w6) => trlay_any (i := k % 8) (hblk.but h6 (fun h => h)) htl hcp (Nat.mod_lt _ (by decide)) HDW.out.1)
        rw [show dkey D = .agg N by rw [HNE.out]; rfl] at HLY
        have HQ := Hid.mk' hq
        have HGL := Hid.mk' hblk.lt
        obtain ⟨a, ha⟩ : ∃ a, a = k % 8 := ⟨_, rfl⟩
        rw [← ha] at HLY HAT
        have HA := Hid.mk' ha
        obtain ⟨Q1, hQ1⟩ : ∃ Q1, Q1 = q + 1 := ⟨_, rfl⟩
        rw [← hQ1] at HNB5 HSET ⊢
        have HQ1 := Hid.mk' hQ1
        have hsub : (Q1 : Int) - 1 = (q : Int) := by omega
        have hwq : IntKind.i64.wrap (q : Int) = (q : Int) := wrapN q (by omega)
        have hqQ : q < Q1 := by omega
        have hdq : decide ((q : Int) < (Q1 : Int)) = true := decide_eq_true (by omega)
        clear hset hcell hblk htl htz hbg hgb hcp hgq ha hq hQ1
        rw [HAT.out]
        refine region_chain [([0, 1, 2, 3, 4, 5, 6, 7], 8)] [] (fun w' => But (· = g) w5 w') (Grow w5) (by kernel_rfl) (by kernel_rfl) (fun _ _ h k => h.trans k) (fun _ h => h.mono (fun _ _ h => h.elim)) ((But.refl _ w5).drew) ?_
        intro ι hne X hX
        have c5 : ∀ x, (X x).cell? ⟨bb, q, none⟩ = some (.slice (some ⟨g, 0, none⟩) 256 cp) := fun x => (World.cell?_of_block ((hX x).block bb hbbl HBG.out)).trans HCELL.out
        iterate 7 (refine still_step rfl (fun K hK => ?_); go_simp; refine hK _ ?_; clear hK K)
        refine still_val rfl (.agg N) rfl (fun x => by rw [HNE.out]; exact run_load_arr ukt i32 (HB5.out.but (hX x) HVG.out).cells0 HDW.out.1 rfl rfl) ?_
        intro K hK; go_simp; refine hK _ ?_; clear hK K
        refine still_nil ?_
        clear hX hne c5
        refine turn_call rfl rfl (fun _ w' => Blk w' g 5 (u8s (setK (abv L k q) a D) ++ R) ∧ But (· = g) w5 w') (fun _ w' => But (· = g) w5 w') (fun _ w1 w2 h k => ⟨h.1.but k (fun h => h), h.2.trans (k.mono (fun _ _ h => h.elim))⟩) (fun _ _ h => h.2) (.inr (fun _ _ h => h)) 37 #[.slice (some ⟨g, 0, none⟩) 256 cp, .int .i64 (a : Int), .agg N] (fun _ => by kernel_rfl) ?_ ?_
        · intro w6 hw6
          refine (HLY.out w6 hw6).mono ?_
          rintro e w7 ⟨rfl, h7, h8⟩
          exact ⟨_, rfl, h7, (hw6.mono (fun _ _ h => h.elim)).trans h8⟩
        · rintro z - Y hY
          go_simp
          refine hY _ ?_
          clear hY Y
          intro ι hne X hX
          refine still_nil ?_
          clear hX hne
          intro w7 hw7
          have HK7 := Hid.mk' hw7
          clear hw7
          go_wp2
          have hns := HSET.out w7 _ (by rw [setK_len (by have := (abv_ok HL.out k (by rw [← HN.out]; exact hk) q).1; have := HA.out; omega) HDW.out.1]; exact (abv_ok HL.out k (by rw [← HN.out]; exact hk) q).1) (setK_lt (abv_ok HL.out k (by rw [← HN.out]; exact hk) q).2 HDW.out.2) HK7.out.1 HK7.out.2
          have he : upd (abv L k) q (setK (abv L k q) a D) = abv L (k + 1) := by
            rw [HQ.out, HA.out, HD.out]; rfl
          rw [he] at hns
          have hq2 : (k + 1 + 7) / 8 = Q1 := by have := HQ.out; have := HQ1.out; omega
          have hgg := HGE.out q (by omega)
          exact ⟨⟨k + 1, _, rfl, by omega, by go_num, G5, by rw [hq2]; exact hns, HG5.out.then HK7.out.2 (fun j hj e => by have := HGQ.out; have := hgg; omega)⟩, by simp [intOf]; omega⟩
      · -- TAIL B
        subst hre
        have hw80 : ((k : Int) % 8 == 0) = false := by
          have : (k : Int) % 8 ≠ 0 := by omega
          simpa using this
        go_upto_region 8 with fail
        obtain ⟨q, hq⟩ : ∃ q, q = k / 8 := ⟨_, rfl⟩
        have hmq : m = q + 1 := by have := HM.out; omega
        have HNB5 := HNB2
        rw [hmq] at HNB5
        obtain ⟨G5, hG5⟩ : ∃ G5, G5 = G := ⟨_, rfl⟩
        rw [← hG5] at HNB5
        have HG5 : Hid (Grow w w2) := HGR.out.trans HT2.out
        have HB5 := HB2
        have HGE : Hid (∀ i, i < q + 1 → w.heap.size ≤ G5 i) := HNB5.out.gnew
        have HGW : Hid (∀ i, i < q + 1 → G5 i ≠ gv) := fun i hi => by
          rw [hG5]
          obtain ⟨V, -, hV⟩ := HNB.out.ex
          have := (hV i (by omega)).lt
          have := HGV.out
          omega
        have HAT : Hid ((k : Int) % 8 = ((k % 8 : Nat) : Int)) := by show _ = _; omega
        subst hmq
        clear HNB2 HNB HB2 hG5
        obtain ⟨bb, rc5, cp, R, hve, hcell, hcp, hblk, htl, htz, hbg, hgb, hset⟩ := HNB5.out.opn (i := q) (by omega)
        obtain ⟨g, hgq⟩ : ∃ g, g = G5 q := ⟨_, rfl⟩
        rw [← hgq] at hcell hblk hbg hgb hset
        have HGQ := Hid.mk' hgq
        have HBG := Hid.mk' hbg
        have HVG : Hid (¬ gv = g) := fun e => HGW.out q (by omega) (by rw [← hgq]; exact e.symm)
        simp only [Value.slice.injEq, true_and] at hve
        obtain ⟨rfl, rfl⟩ := hve
        have HSET := Hid.mk' hset
        have HCELL := Hid.mk' hcell
        have hbbl := cell_lt hcell
        have HLY := Hid.mk' (fun w6 (h6 : Grow w2 w6) => trlay_any (i := k % 8) (hblk.but h6 (fun h => h)) htl hcp (Nat.mod_lt _ (by decide)) HDW.out.1)
        rw [show dkey D = .agg N by rw [HNE.out]; rfl] at HLY
        have HQ := Hid.mk' hq
        have HGL := Hid.mk' hblk.lt
        obtain ⟨a, ha⟩ : ∃ a, a = k % 8 := ⟨_, rfl⟩
        rw [← ha] at HLY HAT
        have HA := Hid.mk' ha
        obtain ⟨Q1, hQ1⟩ : ∃ Q1, Q1 = q + 1 := ⟨_, rfl⟩
        rw [← hQ1] at HNB5 HSET ⊢
        have HQ1 := Hid.mk' hQ1
        have hsub : (Q1 : Int) - 1 = (q : Int) := by omega
        have hwq : IntKind.i64.wrap (q : Int) = (q : Int) := wrapN q (by omega)
        have hqQ : q < Q1 := by omega
        have hdq : decide ((q : Int) < (Q1 : Int)) = true := decide_eq_true (by omega)
        clear hset hcell hblk htl htz hbg hgb hcp hgq ha hq hQ1
        rw [HAT.out]
        refine region_chain [([0, 1, 2, 3, 4, 5, 6, 7], 8)] [] (fun w' => But (· = g) w2 w') (Grow w2) (by kernel_rfl) (by kernel_rfl) (fun _ _ h k => h.trans k) (fun _ h => h.mono (fun _ _ h => h.elim)) ((But.refl _ w2).drew) ?_
        intro ι hne X hX
        have c5 : ∀ x, (X x).cell? ⟨bb, q, none⟩ = some (.slice (some ⟨g, 0, none⟩) 256 cp) := fun x => (World.cell?_of_block ((hX x).block bb hbbl HBG.out)).trans HCELL.out
        iterate 7 (refine still_step rfl (fun K hK => ?_); go_simp; refine hK _ ?_; clear hK K)
        refine still_val rfl (.agg N) rfl (fun x => by rw [HNE.out]; exact run_load_arr ukt i32 (HB5.out.but (hX x) HVG.out).cells0 HDW.out.1 rfl rfl) ?_
        intro K hK; go_simp; refine hK _ ?_; clear hK K
        refine still_nil ?_
        clear hX hne c5
        refine turn_call rfl rfl (fun _ w' => Blk w' g 5 (u8s (setK (abv L k q) a D) ++ R) ∧ But (· = g) w2 w') (fun _ w' => But (· = g) w2 w') (fun _ w1 w2 h k => ⟨h.1.but k (fun h => h), h.2.trans (k.mono (fun _ _ h => h.elim))⟩) (fun _ _ h => h.2) (.inr (fun _ _ h => h)) 37 #[.slice (some ⟨g, 0, none⟩) 256 cp, .int .i64 (a : Int), .agg N] (fun _ => by kernel_rfl) ?_ ?_
        · intro w6 hw6
          refine (HLY.out w6 hw6).mono ?_
          rintro e w7 ⟨rfl, h7, h8⟩
          exact ⟨_, rfl, h7, (hw6.mono (fun _ _ h => h.elim)).trans h8⟩
        · rintro z - Y hY
          go_simp
          refine hY _ ?_
          clear hY Y
          intro ι hne X hX
          refine still_nil ?_
          clear hX hne
          intro w7 hw7
          have HK7 := Hid.mk' hw7
          clear hw7
          go_wp2
          have hns := HSET.out w7 _ (by rw [setK_len (by have := (abv_ok HL.out k (by rw [← HN.out]; exact hk) q).1; have := HA.out; omega) HDW.out.1]; exact (abv_ok HL.out k (by rw [← HN.out]; exact hk) q).1) (setK_lt (abv_ok HL.out k (by rw [← HN.out]; exact hk) q).2 HDW.out.2) HK7.out.1 HK7.out.2
          have he : upd (abv L k) q (setK (abv L k q) a D) = abv L (k + 1) := by
            rw [HQ.out, HA.out, HD.out]; rfl
          rw [he] at hns
          have hq2 : (k + 1 + 7) / 8 = Q1 := by have := HQ.out; have := HQ1.out; omega
          have hgg := HGE.out q (by omega)
          exact ⟨⟨k + 1, _, rfl, by omega, by go_num, G5, by rw [hq2]; exact hns, HG5.out.then HK7.out.2 (fun j hj e => by have := HGQ.out; have := hgg; omega)⟩, by simp [intOf]; omega⟩
    · have hkn : k = n := by omega
      subst hkn
      clear HC HNB HGR
      go_wp2
      go_ret
      have e : L.length = k := HN.out.symm
      exact ⟨_, _, rfl, hnb, hgr⟩
end Go.Proofs.YtmlladpmecclbaaDoor
/- plan: Parent. -/
namespace Go.Proofs.YtmlladpmecclbaaDoor
open Go.RowKit

def dv (a b : Int) : Int := IntKind.i64.wrap (Int.tdiv a b)
abbrev plc (a b : Int) : List Value := [.int .i64 a, .int .i64 b]
structure Pc where
  block : Int
  at' : Int
  e : Int
def Pc.ret (x : Pc) : Value := .tuple #[.agg (plc x.block x.at').toArray, .int .i64 x.e]
def parGo (b t : Int) : Int → Int → List Int → Pc
  | _, _, [] => if b = t then ⟨0, 0, 5⟩ else ⟨0, 0, 1⟩
  | first, many, a :: ls => if sb b first < many then ⟨ad (ad first many) (dv (sb b first) 8), Int.tmod (sb b first) 8, 0⟩ else parGo b t (ad first many) a ls
theorem parGo_nil (b t f m : Int) : parGo b t f m [] = if b = t then ⟨0, 0, 5⟩ else ⟨0, 0, 1⟩ := rfl
theorem parGo_cons (b t f m a : Int) (ls : List Int) : parGo b t f m (a :: ls) = if sb b f < m then ⟨ad (ad f m) (dv (sb b f) 8), Int.tmod (sb b f) 8, 0⟩ else parGo b t (ad f m) a ls := rfl
def Pn.par (p : Pn) (b : Int) : Pc := if b < 0 then ⟨0, 0, 1⟩ else if b < p.pages then ⟨ad p.pages (dv b 16), b % 16, 0⟩ else parGo b p.top p.pages p.counters p.levels
theorem iPc : (Tryd.prog.info? 78).map (·.size) = some 2 := by kernel_rfl
theorem zPc (w : World) : (zeroValue 78).run Tryd.prog w = .ok (.agg (plc 0 0).toArray) w := by kernel_rfl
theorem bldPc (a b : Int) (w : World) : (Instr.build 78 #[(0, .int .i64 a), (1, .int .i64 b)]).run Tryd.prog w = .ok (.agg (plc a b).toArray) w := by kernel_rfl
theorem plc_one (a b : Int) : ∀ u ∈ plc a b, u.oneCell' = true := by
  intro u hu
  simp only [List.mem_cons, List.not_mem_nil, or_false] at hu
  rcases hu with rfl | rfl <;> rfl
/-- What memory is at Parent's begin: the plan in a box, a place for the answer. -/
structure ParM (w : World) (p : Pn) (v : Value) (g0 g1 : Nat) (W : World) : Prop where
  box : Blk W g0 25 (pcells p v)
  ans : Blk W g1 78 (plc 0 0)
  grow : Grow w W
  ne : w.heap.size ≤ g1
theorem par_begin (w : World) (p : Pn) (v : Value) : ∃ W0 W1 g0 g1, W0 = w.alloc (.cells (pcells p v).toArray 25) ∧ g0 = w.heap.size ∧ W1 = W0.alloc (.cells (plc 0 0).toArray 78) ∧ g1 = W0.heap.size ∧ ParM w p v g0 g1 W1 := by
  have g : Grow w (w.alloc (.cells (pcells p v).toArray 25)) := (But.refl _ w).alloc _
  exact ⟨_, _, _, _, rfl, rfl, rfl, rfl, (Blk.new rfl : Blk (w.alloc (.cells (pcells p v).toArray 25)) w.heap.size 25 (pcells p v)).but ((But.refl (fun _ => False) _).alloc _) (fun h => h), Blk.new rfl, g.alloc _, g.size⟩
theorem ParM.fin {w : World} {p : Pn} {v : Value} {g0 g1 : Nat} {W w' w2 : World} (h : ParM w p v g0 g1 W) (k : Grow W w') (k2 : But (· = g1) w' w2) : Grow w w2 :=
  (h.grow.trans k).then k2 (fun j hj e => by have := h.ne; omega)
set_option maxRecDepth 100000 in
set_option maxHeartbeats 2000000 in
theorem parent_any (w : World) (p : Pn) (v : Value) (b : Int) (hv : Nums w v p.levels) (hlen : p.levels.length ≤ 100000) : Calls Tryd.prog 42 #[pval p v, .int .i64 b] w fun e w' => e = .returned (p.par b).ret ∧ Grow w w' := by
  obtain ⟨W0, W1, g0, g1, hW0, hg0, hW1, hg1, hM⟩ := par_begin w p v
  have HW0 := Hid.mk' hW0
  have HG0 := Hid.mk' hg0
  have HW1 := Hid.mk' hW1
  have HG1 := Hid.mk' hg1
  have HM := Hid.mk' hM
  have HV := Hid.mk' hv
  have HLN := Hid.mk' hlen
  have HTP := Hid.mk' (fun w => top_any w p v)
  have c0 : W1.cell? ⟨g0, 0, none⟩ = some (.int .i64 p.pages) := hM.box.cell 0
  have c2 : W1.cell? ⟨g0, 2, none⟩ = some (.int .i64 p.counters) := hM.box.cell 2
  have c3 : W1.cell? ⟨g0, 3, none⟩ = some v := hM.box.cell 3
  unfold Pn.par
  generalize hpg : p.pages = a0 at c0 ⊢
  generalize hct : p.counters = a2 at c2 ⊢
  generalize htp : p.top = tp at HTP ⊢
  generalize hlv : p.levels = ls at HV HLN ⊢
  obtain ⟨la, lc, hve⟩ := HV.out.len
  obtain ⟨ln, hln⟩ : ∃ ln, ln = ls.length := ⟨_, rfl⟩
  rw [← hln] at hve HLN
  have HLE := Hid.mk' hln
  unfold pval
  obtain ⟨N, hN⟩ : ∃ N, N = (pcells p v).toArray := ⟨_, rfl⟩
  rw [← hN] at HW0 ⊢
  have HNN := Hid.mk' hN
  clear hW0 hg0 hW1 hg1 hM hv hlen hln hN hpg hct htp hlv
  subst hve
  by_cases h0 : b < 0
  · rw [if_pos h0]
    go_enter Tryd.func42, Tryd.ntmps42
    go_upto_region 1 with (first
      | (refine wpList_runH rfl (exec_allocF rfl (zPc _)) ?_; rw [← HW0.out, ← HG0.out, ← HW1.out, ← HG1.out])
      | fail)
    clear HW0 HG0 HW1 HG1
    go_wp2_with (first
      | (refine wpList_store_at rfl _ _ _ rfl g1 0 (plc 0 0) rfl rfl 78 [] (plc 0 0) [] (by simpa using HM.out.ans) rfl rfl iPc (plc_one _ _) ?_; intro w3 hb3 hbut3; rw [List.nil_append, List.append_nil] at hb3)
      | fail)
    exact bodyPost_ret (results_plan_tmp rfl _ _ g1 _ _ _ _ rfl hb3 Tryd.underlying78 rfl iPc rfl) rfl ⟨rfl, HM.out.fin (But.refl _ _) hbut3⟩
  · rw [if_neg h0]
    by_cases h1 : b < a0
    · rw [if_pos h1]
      obtain ⟨q, hq⟩ : ∃ q, q = dv b 16 := ⟨_, rfl⟩
      obtain ⟨t, ht⟩ : ∃ t, t = ad a0 q := ⟨_, rfl⟩
      rw [← hq, ← ht]
      have e1 : IntKind.i64.wrap (b.tdiv 16) = q := hq.symm
      have e2 : IntKind.i64.wrap (a0 + q) = t := ht.symm
      clear hq ht
      go_enter Tryd.func42, Tryd.ntmps42
      go_upto_region 4 with (first
        | (refine wpList_runH rfl (exec_allocF rfl (zPc _)) ?_; rw [← HW0.out, ← HG0.out, ← HW1.out, ← HG1.out])
        | fail)
      clear HW0 HG0 HW1 HG1
      go_wp2_with (first
        | (refine wpList_store_at rfl _ _ _ rfl g1 0 (plc t (b % 16)) rfl rfl 78 [] (plc 0 0) [] (by simpa using HM.out.ans) rfl rfl iPc (plc_one _ _) ?_; intro w3 hb3 hbut3; rw [List.nil_append, List.append_nil] at hb3)
        | fail)
      exact bodyPost_ret (results_plan_tmp rfl _ _ g1 _ _ _ _ rfl hb3 Tryd.underlying78 rfl iPc rfl) rfl ⟨rfl, HM.out.fin (But.refl _ _) hbut3⟩
    · rw [if_neg h1]
      go_enter Tryd.func42, Tryd.ntmps42
      go_upto_region 5 with (first
        | (refine wpList_runH rfl (exec_allocF rfl (zPc _)) ?_; rw [← HW0.out, ← HG0.out, ← HW1.out, ← HG1.out])
        | fail)
      clear HW0 HG0 HW1 HG1
      have HC0 := Hid.mk' c0
      have HC2 := Hid.mk' c2
      have HC3 := Hid.mk' c3
      clear c0 c2 c3
      refine region_chain [] [0, 1, 2, 3, 4, 5] (Grow W1) (Grow W1) (by kernel_rfl) (by kernel_rfl) (fun _ _ h k => h.trans k) (fun _ h => h) ((But.refl _ W1).drew) ?_
      intro ι hne X hX
      have d0 : ∀ z, (X z).cell? ⟨g0, 0, none⟩ = some (.int .i64 a0) := fun z => grow_cell (hX z) HC0.out
      have d2 : ∀ z, (X z).cell? ⟨g0, 2, none⟩ = some (.int .i64 a2) := fun z => grow_cell (hX z) HC2.out
      iterate 6 (refine still_step rfl (fun K hK => ?_); go_simp; refine hK _ ?_; clear hK K)
      refine still_nil ?_
      clear hX hne d0 d2
      intro w2 hw2
      have HG2 := Hid.mk' hw2
      have c3 := grow_cell hw2 HC3.out
      clear hw2 HC0 HC2 HC3
      go_wp2
      have hlni : (ln : Int) ≤ 100000 := by have := HLN.out; omega
      go_loopw [6, 7, 35] (fun fv mv iv wr => ∃ (i : Nat) (f m : Int), i ≤ ln ∧ iv = .int .i64 i ∧ fv = .int .i64 f ∧ mv = .int .i64 m ∧ parGo b tp a0 a2 ls = parGo b tp f m (ls.drop i) ∧ Grow W1 wr) (fun _ _ iv _ => ln - (intOf iv).toNat)
      case atStart => exact ⟨0, a0, a2, Nat.zero_le _, rfl, rfl, rfl, rfl, HG2.out⟩
      case round =>
        clear HG2 c3
        obtain ⟨i, f, m, hil, rfl, rfl, rfl, hpe, hG⟩ := hrel
        have HPE := Hid.mk' hpe
        have HG := Hid.mk' hG
        clear hpe hG
        by_cases hlt : i < ln
        · have hlti : (i : Int) < (ln : Int) := by omega
          obtain ⟨bb, o1, k1, e1, -, -, hc1⟩ := HV.out.at (by have := HLE.out; omega)
          simp only [Value.slice.injEq] at e1
          obtain ⟨rfl, -, rfl⟩ := e1
          obtain ⟨u, hu⟩ : ∃ u, u = ls.getD i 0 := ⟨_, rfl⟩
          have cu := grow_cell HG.out (grow_cell HM.out.grow (hc1 i (by have := HLE.out; omega)))
          have hdr : ls.drop i = u :: ls.drop (i + 1) := by
            have h9 : i < ls.length := by have := HLE.out; omega
            rw [List.drop_eq_getElem_cons h9, hu, List.getD_eq_getElem?_getD, List.getElem?_eq_getElem h9]; rfl
          rw [← hu] at cu
          rw [hdr, parGo_cons] at HPE
          obtain ⟨a, ha⟩ : ∃ a, a = sb b f := ⟨_, rfl⟩
          obtain ⟨t, ht⟩ : ∃ t, t = ad f m := ⟨_, rfl⟩
          have x1 : IntKind.i64.wrap (b - f) = a := ha.symm
          have x2 : IntKind.i64.wrap (f + m) = t := ht.symm
          rw [← ha, ← ht] at HPE
          clear ha ht hu hc1 hdr
          by_cases hm : a < m
          · rw [if_pos hm] at HPE
            obtain ⟨q, hq⟩ : ∃ q, q = dv a 8 := ⟨_, rfl⟩
            obtain ⟨r, hr⟩ : ∃ r, r = ad t q := ⟨_, rfl⟩
            obtain ⟨z, hz⟩ : ∃ z, z = Int.tmod a 8 := ⟨_, rfl⟩
            have x3 : IntKind.i64.wrap (a.tdiv 8) = q := hq.symm
            have x4 : IntKind.i64.wrap (t + q) = r := hr.symm
            have x5 : Int.tmod a 8 = z := hz.symm
            have z1 : z < 8 := by rw [hz]; exact Int.tmod_lt_of_pos a (by decide)
            have z0 : -8 < z := by
              rw [hz]
              have := Int.tmod_lt_of_pos (-a) (b := 8) (by decide)
              rw [Int.neg_tmod] at this
              omega
            rw [← hq, ← hr, ← hz] at HPE
            have HA := Hid.mk' (HM.out.ans.but HG.out (fun h => h))
            clear hq hr hz hil hlt
            go_wp2_with (first
              | (refine wpList_store_at rfl _ _ _ rfl g1 0 (plc r z) rfl rfl 78 [] (plc 0 0) [] (by simpa using HA.out) rfl rfl iPc (plc_one _ _) ?_; intro w3 hb3 hbut3; rw [List.nil_append, List.append_nil] at hb3)
              | fail)
            exact bodyPost_ret (results_plan_tmp rfl _ _ g1 _ _ _ _ rfl hb3 Tryd.underlying78 rfl iPc rfl) rfl ⟨by rw [HPE.out]; rfl, HM.out.fin HG.out hbut3⟩
          · rw [if_neg hm] at HPE
            have HLT := Hid.mk' hlt
            clear hil hlt
            go_wp2
            exact ⟨⟨i + 1, t, u, by have := HLT.out; omega, by go_num, rfl, rfl, HPE.out, HG.out⟩, by simp [intOf]; have := HLT.out; omega⟩
        · have hlti : ¬ (i : Int) < (ln : Int) := by omega
          have hdr : ls.drop i = [] := by rw [List.drop_eq_nil_iff]; have := HLE.out; omega
          rw [hdr, parGo_nil] at HPE
          have HCW : Hid (∀ j u, (pcells p (.slice la ln lc))[j]? = some u → wr.cell? ((⟨g0, 0, none⟩ : Addr).add j) = some u) := fun j u hj => by
            rw [addr_add, Nat.zero_add, (HM.out.box.but HG.out (fun h => h)).cell j]; exact hj
          clear hdr hil hlt
          go_wp2_with (first
            | (refine wpList_load_cells rfl _ _ rfl ⟨g0, 0, none⟩ rfl (pcells p (.slice la ln lc)) _ HCW.out Tryd.underlying25 rfl iPl ?_)
            | fail)
          refine Calls.mono (HTP.out _) ?_
          rintro e w4 ⟨rfl, hg4⟩
          have HG4 := Hid.mk' (HG.out.trans hg4)
          have HA := Hid.mk' (HM.out.ans.but HG4.out (fun h => h))
          clear hg4 HCW HTP
          by_cases hbt : b = tp
          · rw [if_pos hbt] at HPE
            have hbb : (b == tp) = true := by simpa using hbt
            clear hbt
            go_wp2_with (first
              | (refine wpList_store_at rfl _ _ _ rfl g1 0 (plc 0 0) rfl rfl 78 [] (plc 0 0) [] (by simpa using HA.out) rfl rfl iPc (plc_one _ _) ?_; intro w3 hb3 hbut3; rw [List.nil_append, List.append_nil] at hb3)
              | fail)
            exact bodyPost_ret (results_plan_tmp rfl _ _ g1 _ _ _ _ rfl hb3 Tryd.underlying78 rfl iPc rfl) rfl ⟨by rw [HPE.out]; rfl, HM.out.fin HG4.out hbut3⟩
          · rw [if_neg hbt] at HPE
            have hbb : (b == tp) = false := by simpa using hbt
            clear hbt
            go_wp2_with (first
              | (refine wpList_store_at rfl _ _ _ rfl g1 0 (plc 0 0) rfl rfl 78 [] (plc 0 0) [] (by simpa using HA.out) rfl rfl iPc (plc_one _ _) ?_; intro w3 hb3 hbut3; rw [List.nil_append, List.append_nil] at hb3)
              | fail)
            exact bodyPost_ret (results_plan_tmp rfl _ _ g1 _ _ _ _ rfl hb3 Tryd.underlying78 rfl iPc rfl) rfl ⟨by rw [HPE.out]; rfl, HM.out.fin HG4.out hbut3⟩
end Go.Proofs.YtmlladpmecclbaaDoor
/- plan: climb, whatever visit is. -/
namespace Go.Proofs.YtmlladpmecclbaaDoor
open Go.RowKit

theorem wrap_in (x : Int) : i64 (IntKind.i64.wrap x) := by
  unfold i64
  simp [IntKind.wrap, IntKind.bits, IntKind.signed]
  omega
theorem Nums.keep {R : Nat → Prop} {w w' : World} {v : Value} {fs : List Int} (h : Nums w v fs) (k : But R w w') (hr : 0 < fs.length → ∀ j, v.ownBlock = some j → ¬ R j) : Nums w' v fs := by
  rcases Nat.eq_zero_or_pos fs.length with h0 | h0
  · obtain ⟨h1, h2, h3 | ⟨h4, -⟩⟩ := h
    · exact ⟨h1, h2, .inl h3⟩
    · omega
  · exact h.but k (fun j hj _ => hr h0 j hj)
theorem Nums.low {w : World} {v : Value} {fs : List Int} (h : Nums w v fs) (h0 : 0 < fs.length) : ∀ j, v.ownBlock = some j → j < w.heap.size := by
  obtain ⟨b, off, cap, rfl, -, hb, -⟩ := h.at h0
  intro j hj
  have h9 : some b = some j := hj
  have := Option.some.inj h9
  omega
def climbL : Int → Int → Int → List Int → List Int
  | a, f, _, [] => [ad f a]
  | a, f, m, b :: ls => ad f a :: climbL (dv a 8) (ad f m) b ls
def climbT : Int → Int → Int → List Int → List Int
  | _, _, _, [] => []
  | a, f, m, b :: ls => climbL (dv a 8) (ad f m) b ls
theorem climb_eq (a f m : Int) (ls : List Int) : climbL a f m ls = ad f a :: climbT a f m ls := by cases ls <;> rfl
theorem climbT_cons (a f m b : Int) (ls : List Int) : climbT a f m (b :: ls) = climbL (dv a 8) (ad f m) b ls := rfl
def Pn.path (p : Pn) (x : Int) : List Int := climbL (dv x 16) p.pages p.counters p.levels
def runB (B : List Int → Int → Bool) : List Int → List Int → List Int
  | ds, [] => ds
  | ds, x :: t => if B ds x then runB B (ds ++ [x]) t else ds ++ [x]
theorem runB_cons (B : List Int → Int → Bool) (ds : List Int) (x : Int) (t : List Int) : runB B ds (x :: t) = if B ds x then runB B (ds ++ [x]) t else ds ++ [x] := rfl
/-- New blocks are kept. -/
def FF (F : Nat → Prop) (w w' : World) : Nat → Prop := fun b => F b ∨ (w.heap.size ≤ b ∧ b < w'.heap.size)
def ClTo (I : (Nat → Prop) → World → List Int → Prop) (F : Nat → Prop) (w : World) (R : List Int) (e : Ending) (w' : World) : Prop := e = .returned (.tuple #[]) ∧ (∃ F', (∀ b, F b → F' b) ∧ I F' w' R) ∧ But (fun b => ¬ F b) w w'
set_option maxRecDepth 100000 in
set_option maxHeartbeats 2000000 in
theorem climb_any (w : World) (p : Pn) (v : Value) (x : Int) (fn g : Nat) (I : (Nat → Prop) → World → List Int → Prop) (B : List Int → Int → Bool) (F : Nat → Prop)
    (hv : Nums w v p.levels) (hlen : p.levels.length ≤ 100000) (hF : 0 < p.levels.length → ∀ b, v.ownBlock = some b → F b) (hI : I F w [])
    (hent : ∀ (a : Array Value) (w : World), (callFunc fn a).run Tryd.prog w = .ok (.enter fn a) w)
    (hsame : ∀ F w w' ds, I F w ds → Grow w w' → I F w' ds)
    (hnew : ∀ F w w' ds, I F w ds → Grow w w' → I (FF F w w') w' ds)
    (hstep : ∀ F w ds x, I F w ds → i64 x → ds.length ≤ 100000 → Calls Tryd.prog fn #[.int .i64 x, ptr g] w fun e w' => e = .returned (.bool (B ds x)) ∧ I F w' (ds ++ [x]) ∧ But (fun b => ¬ F b) w w') :
    Calls Tryd.prog 40 #[pval p v, .int .i64 x, .func (.func fn) #[] #[ptr g]] w (ClTo I F w (runB B [] (p.path x))) := by
  obtain ⟨W, gp, hbx⟩ := box_pl w p v
  have HW := Hid.mk' hbx.ew
  have HGP := Hid.mk' hbx.eg
  have HBX := Hid.mk' hbx
  have c0 : W.cell? ⟨gp, 0, none⟩ = some (.int .i64 p.pages) := hbx.blk.cell 0
  have c2 : W.cell? ⟨gp, 2, none⟩ = some (.int .i64 p.counters) := hbx.blk.cell 2
  have HC3 : Hid (∀ w', But (fun b => ¬ FF F w W b) W w' → w'.cell? ⟨gp, 3, none⟩ = some v) := fun w' k => (hbx.blk.but k (fun h => h (.inr ⟨by rw [hbx.eg]; exact Nat.le_refl _, hbx.blk.lt⟩))).cell 3
  have HNM : Hid (∀ w', But (fun b => ¬ FF F w W b) W w' → Nums w' v p.levels) := fun w' k => (hv.grow hbx.grow).keep k (fun h0 j hj h => h (.inl (hF h0 j hj)))
  have HI1 := Hid.mk' (hnew F w W [] hI hbx.grow)
  have HST := Hid.mk' (hstep (FF F w W))
  have HEN := Hid.mk' hent
  have HSM := Hid.mk' (hsame (FF F w W))
  have HBT : Hid (∀ w', But (fun b => ¬ FF F w W b) W w' → But (fun b => ¬ F b) w w') := fun w' k => (hbx.grow.mono (fun _ _ h => h.elim)).then k (fun i hi h hF => h (.inl hF))
  unfold Pn.path
  generalize hpg : p.pages = a0 at c0 ⊢
  generalize hct : p.counters = a2 at c2 ⊢
  generalize hlv : p.levels = ls at HNM hlen ⊢
  obtain ⟨la, lc, hve⟩ := hv.len
  rw [hlv] at hve
  obtain ⟨ln, hln⟩ : ∃ ln, ln = ls.length := ⟨_, rfl⟩
  rw [← hln] at hve hlen
  have HLE := Hid.mk' hln
  have hlni : (ln : Int) ≤ 100000 := by omega
  unfold pval
  obtain ⟨N, hN⟩ : ∃ N, N = (pcells p v).toArray := ⟨_, rfl⟩
  rw [← hN] at HW ⊢
  obtain ⟨F1, hF1⟩ : ∃ F1, F1 = FF F w W := ⟨_, rfl⟩
  rw [← hF1] at HC3 HNM HI1 HST HBT HSM
  have HF1 : Hid (∀ b, F b → F1 b) := fun b hb => by rw [hF1]; exact .inl hb
  obtain ⟨q, hq⟩ : ∃ q, q = dv x 16 := ⟨_, rfl⟩
  rw [← hq]
  have e1 : IntKind.i64.wrap (x.tdiv 16) = q := hq.symm
  obtain ⟨R, hR⟩ : ∃ R, R = runB B [] (climbL q a0 a2 ls) := ⟨_, rfl⟩
  rw [← hR]
  rw [climb_eq, runB_cons, List.nil_append] at hR
  obtain ⟨y, hy⟩ : ∃ y, y = ad a0 q := ⟨_, rfl⟩
  have e2 : IntKind.i64.wrap (a0 + q) = y := hy.symm
  have HYI : Hid (i64 y) := Hid.mk' (by rw [hy]; exact wrap_in _)
  rw [← hy] at hR
  have HR := Hid.mk' hR
  clear hbx hv hlen hF hI hnew hstep hent hsame hpg hct hlv hln hN hF1 hq hR hy
  subst hve
  go_enter Tryd.func40, Tryd.ntmps40
  go_upto_region 1 with fail
  rw [← HW.out, ← HGP.out]
  clear HW HGP
  go_upto_region 2 with fail
  have HC0 := Hid.mk' c0
  have HC2 := Hid.mk' c2
  clear c0 c2
  refine region_chain [] [0, 1, 2, 3, 4, 5] (Grow W) (Grow W) (by kernel_rfl) (by kernel_rfl) (fun _ _ h k => h.trans k) (fun _ h => h) ((But.refl _ W).drew) ?_
  intro ι hne X hX
  have d0 : ∀ z, (X z).cell? ⟨gp, 0, none⟩ = some (.int .i64 a0) := fun z => grow_cell (hX z) HC0.out
  have d2 : ∀ z, (X z).cell? ⟨gp, 2, none⟩ = some (.int .i64 a2) := fun z => grow_cell (hX z) HC2.out
  iterate 6 (refine still_step rfl (fun K hK => ?_); go_simp; refine hK _ ?_; clear hK K)
  refine still_nil ?_
  clear hX hne d0 d2 HC0 HC2
  intro w2 hw2
  have HG2 := Hid.mk' hw2
  clear hw2
  go_wp2_with fail
  rw [HEN.out]
  refine Calls.mono (HST.out _ _ _ (HSM.out _ _ _ HI1.out HG2.out) HYI.out (Nat.zero_le _)) ?_
  rintro e w3 ⟨rfl, hI3, hb3⟩
  have hbw : But (fun b => ¬ F1 b) W w3 := (HG2.out.mono (fun _ _ h => h.elim)).trans hb3
  have HI3 := Hid.mk' hI3
  have HB3 := Hid.mk' hbw
  have HR3 : Hid (R = if B [] y then runB B [y] (climbT q a0 a2 ls) else [y]) := HR.out
  clear hI3 hb3 hbw HI1 HG2 HR HYI
  go_wp2
  generalize B [] y = mo at HR3 ⊢
  go_loopw [6, 7, 8, 9, 10] (fun av fv mv ov iv wr => ∃ (i : Nat) (a f m : Int) (o : Bool) (ds : List Int), i ≤ ln ∧ ds.length = i + 1 ∧ av = .int .i64 a ∧ fv = .int .i64 f ∧ mv = .int .i64 m ∧ ov = .bool o ∧ iv = .int .i64 i ∧ (R = if o then runB B ds (climbT a f m (ls.drop i)) else ds) ∧ I F1 wr ds ∧ But (fun b => ¬ F1 b) W wr) (fun _ _ _ _ iv _ => ln - (intOf iv).toNat)
  case atStart => exact ⟨0, q, a0, a2, mo, [y], Nat.zero_le _, rfl, rfl, rfl, rfl, rfl, rfl, HR3.out, HI3.out, HB3.out⟩
  case round =>
    clear HI3 HB3 HR3
    obtain ⟨i, a, f, m, o, ds, hil, hdl, rfl, rfl, rfl, rfl, rfl, hR, hI, hB⟩ := hrel
    have HR := Hid.mk' hR
    have HI := Hid.mk' hI
    have HB := Hid.mk' hB
    have HDL := Hid.mk' hdl
    clear hR hI hB hdl
    cases o with
    | false =>
      have HRE : Hid (R = ds) := HR.out
      go_wp2
      refine bodyPost_ret (results_none rfl _ _ _) rfl ?_
      exact ⟨rfl, ⟨F1, HF1.out, by rw [HRE.out]; exact HI.out⟩, HBT.out _ HB.out⟩
    | true =>
      by_cases hlt : i < ln
      · have hlti : (i : Int) < (ln : Int) := by omega
        have c3 := HC3.out _ HB.out
        obtain ⟨bb, o1, k1, e3, -, -, hc1⟩ := (HNM.out _ HB.out).at (by have := HLE.out; omega)
        simp only [Value.slice.injEq] at e3
        obtain ⟨rfl, -, rfl⟩ := e3
        obtain ⟨u, hu⟩ : ∃ u, u = ls.getD i 0 := ⟨_, rfl⟩
        have cu := hc1 i (by have := HLE.out; omega)
        have hdr : ls.drop i = u :: ls.drop (i + 1) := by
          have h9 : i < ls.length := by have := HLE.out; omega
          rw [List.drop_eq_getElem_cons h9, hu, List.getD_eq_getElem?_getD, List.getElem?_eq_getElem h9]; rfl
        rw [← hu] at cu
        have hR2 : R = runB B ds (climbT a f m (ls.drop i)) := HR.out
        rw [hdr, climbT_cons, climb_eq, runB_cons] at hR2
        obtain ⟨a', ha⟩ : ∃ a', a' = dv a 8 := ⟨_, rfl⟩
        obtain ⟨f', hf⟩ : ∃ f', f' = ad f m := ⟨_, rfl⟩
        obtain ⟨y', hy⟩ : ∃ y', y' = ad f' a' := ⟨_, rfl⟩
        rw [← ha, ← hf, ← hy] at hR2
        have x1 : IntKind.i64.wrap (a.tdiv 8) = a' := ha.symm
        have x2 : IntKind.i64.wrap (f + m) = f' := hf.symm
        have x3 : IntKind.i64.wrap (f' + a') = y' := hy.symm
        have HYI : Hid (i64 y') := Hid.mk' (by rw [hy]; exact wrap_in _)
        have HR2 := Hid.mk' hR2
        have HLT := Hid.mk' hlt
        clear hu hc1 hdr hR2 ha hf hy hil hlt HR
        go_upto_region 8 with fail
        have HC3' := Hid.mk' c3
        have HCU := Hid.mk' cu
        clear c3 cu
        refine region_chain [] [0, 1, 2, 3, 4, 5, 6, 7, 8, 9] (Grow wr) (Grow wr) (by kernel_rfl) (by kernel_rfl) (fun _ _ h k => h.trans k) (fun _ h => h) ((But.refl _ wr).drew) ?_
        intro ι hne X hX
        have d0 : ∀ z, (X z).cell? ⟨gp, 3, none⟩ = some (.slice (some ⟨bb, o1, none⟩) ln lc) := fun z => grow_cell (hX z) HC3'.out
        have d2 : ∀ z, (X z).cell? ⟨bb, o1 + i, none⟩ = some (.int .i64 u) := fun z => grow_cell (hX z) HCU.out
        iterate 10 (refine still_step rfl (fun K hK => ?_); go_simp; refine hK _ ?_; clear hK K)
        refine still_nil ?_
        clear hX hne d0 d2 HC3' HCU
        intro w4 hw4
        have HG4 := Hid.mk' hw4
        clear hw4
        go_wp2_with fail
        rw [HEN.out]
        refine Calls.mono (HST.out _ _ _ (HSM.out _ _ _ HI.out HG4.out) HYI.out (by have := HDL.out; have := HLT.out; omega)) ?_
        rintro e w5 ⟨rfl, hI5, hb5⟩
        have HI5 := Hid.mk' hI5
        have HB5 := Hid.mk' ((HB.out.then HG4.out (fun _ _ h => h.elim)).trans hb5)
        generalize B ds y' = mo2 at HR2 ⊢
        clear hI5 hb5
        go_wp2
        exact ⟨⟨i + 1, a', f', u, mo2, ds ++ [y'], by have := HLT.out; omega, by rw [List.length_append, HDL.out]; rfl, rfl, rfl, rfl, rfl, by go_num, HR2.out, HI5.out, HB5.out⟩, by simp [intOf]; have := HLT.out; omega⟩
      · have hlti : ¬ (i : Int) < (ln : Int) := by omega
        have c3 := HC3.out _ HB.out
        have hdr : ls.drop i = [] := by rw [List.drop_eq_nil_iff]; have := HLE.out; omega
        have HRE : Hid (R = ds) := Hid.mk' (by rw [HR.out, hdr]; rfl)
        clear hdr hil
        go_wp2
        refine bodyPost_ret (results_none rfl _ _ _) rfl ?_
        exact ⟨rfl, ⟨F1, HF1.out, by rw [HRE.out]; exact HI.out⟩, HBT.out _ HB.out⟩
end Go.Proofs.YtmlladpmecclbaaDoor
/- Plans that Of made: parents and paths, as numbers. -/
namespace Go.Proofs.YtmlladpmecclbaaDoor
open Go.RowKit

/-- Each level has one node for each eight below it begun; the last one has one. -/
def LvC : Int → List Int → Prop
  | m, [] => m = 1
  | m, a :: ls => a = (m + 7) / 8 ∧ LvC a ls
def sm : List Int → Int
  | [] => 0
  | a :: l => a + sm l
theorem LvC.pos : ∀ {ls : List Int} {m : Int}, 1 ≤ m → LvC m ls → (∀ a ∈ ls, 1 ≤ a) ∧ 0 ≤ sm ls
  | [], _, _, _ => ⟨nofun, Int.le_refl 0⟩
  | a :: ls, m, hm, h => by
    obtain ⟨h1, h2⟩ := h
    have ha : 1 ≤ a := by omega
    have h3 := LvC.pos ha h2
    refine ⟨fun b hb => ?_, by unfold sm; omega⟩
    rcases List.mem_cons.1 hb with rfl | hb
    · exact ha
    · exact h3.1 b hb
/-- A plan that Of made. -/
structure Mad (p : Pn) : Prop where
  pg : 1 ≤ p.pages ∧ p.pages ≤ 4096
  ct : p.counters = (p.pages + 15) / 16
  lv : LvC p.counters p.levels
  nd : p.nodes = sm p.levels
  sum : sm p.levels ≤ 37
  hd : p.head = p.pages + p.counters + p.nodes
  len : 1 ≤ p.levels.length ∧ p.levels.length ≤ 3
theorem sm_toI (l : List Nat) : sm (toI l) = (l.sum : Nat) := by
  induction l with
  | nil => rfl
  | cons a l ih =>
    show (a : Int) + sm (toI l) = _
    rw [ih, List.sum_cons]
    omega
theorem plan_mad {n b : Nat} (h1 : 1 ≤ n) (h2 : n ≤ 4096) : Mad (plan n b) := by
  have hc1 : 1 ≤ bg n 16 := by unfold bg; omega
  have hc2 : bg n 16 ≤ 256 := by unfold bg; omega
  have hl := lvs_le hc1 hc2
  refine ⟨?_, ?_, ?_, ?_, ?_, ?_, ?_⟩
  · show 1 ≤ (n : Int) ∧ (n : Int) ≤ 4096
    omega
  · show ((bg n 16 : Nat) : Int) = ((n : Int) + 15) / 16
    unfold bg; omega
  · show LvC ((bg n 16 : Nat) : Int) (toI (lvs (bg n 16)))
    generalize bg n 16 = c at hc1 hc2
    rcases lvs_shape hc1 hc2 with ⟨a, e⟩ | ⟨a, b, e⟩ | ⟨a, e⟩
    · rw [e]
      exact ⟨by show (1 : Int) = _; omega, rfl⟩
    · rw [e]
      refine ⟨?_, ?_, rfl⟩
      · show ((bg c 8 : Nat) : Int) = _; unfold bg; omega
      · show (1 : Int) = (((bg c 8 : Nat) : Int) + 7) / 8; unfold bg; omega
    · rw [e]
      refine ⟨?_, ?_, ?_, rfl⟩
      · show ((bg c 8 : Nat) : Int) = _; unfold bg; omega
      · show ((bg (bg c 8) 8 : Nat) : Int) = (((bg c 8 : Nat) : Int) + 7) / 8; unfold bg; omega
      · show (1 : Int) = (((bg (bg c 8) 8 : Nat) : Int) + 7) / 8; unfold bg; omega
  · show (((lvs (bg n 16)).sum : Nat) : Int) = sm (toI (lvs (bg n 16)))
    rw [sm_toI]
  · show sm (toI (lvs (bg n 16))) ≤ 37
    rw [sm_toI]
    have := hl.2.2.1
    omega
  · show ((n + bg n 16 + (lvs (bg n 16)).sum : Nat) : Int) = (n : Int) + (bg n 16 : Nat) + ((lvs (bg n 16)).sum : Nat)
    omega
  · show 1 ≤ (toI (lvs (bg n 16))).length ∧ (toI (lvs (bg n 16))).length ≤ 3
    rw [toI_len]
    exact ⟨hl.2.1, hl.1⟩
theorem Mad.c1 {p : Pn} (h : Mad p) : 1 ≤ p.counters ∧ p.counters ≤ 256 := by
  have := h.ct
  have := h.pg
  omega
theorem Mad.top {p : Pn} (h : Mad p) : p.top = p.pages + p.counters + sm p.levels - 1 := by
  have := h.pg
  have := h.c1
  have := h.nd
  have h3 := (h.lv.pos h.c1.1).2
  have := h.sum
  unfold Pn.top
  rw [ad_ok (a := p.pages) (b := p.counters) (by omega) (by omega), ad_ok (by omega) (by omega), sb_ok (by omega) (by omega)]
  omega
theorem dv_ok {a b : Int} (h0 : 0 ≤ a) (h1 : a ≤ 9223372036854775807) (hb : 1 ≤ b) : dv a b = a / b := by
  unfold dv
  rw [Int.tdiv_eq_ediv_of_nonneg h0]
  have h2 : 0 ≤ a / b := Int.ediv_nonneg h0 (by omega)
  have h3 : a / b ≤ a := Int.ediv_le_self b h0
  exact wrapI (by omega) (by omega)
/-- A level is passed by. -/
theorem parGo_skip {x t f m a : Int} {ls : List Int} (hf : 0 ≤ f) (hm : 0 ≤ m) (hx : f + m ≤ x) (h2 : x ≤ 9223372036854775807) : parGo x t f m (a :: ls) = parGo x t (f + m) a ls := by
  rw [parGo_cons, sb_ok (by omega) (by omega), if_neg (by omega), ad_ok (by omega) (by omega)]
theorem parGo_in {x t f m a : Int} {ls : List Int} (hf : 0 ≤ f) (hx : f ≤ x) (hm : x < f + m) (h2 : f + m ≤ 1000000) : parGo x t f m (a :: ls) = ⟨f + m + (x - f) / 8, (x - f) % 8, 0⟩ := by
  rw [parGo_cons, sb_ok (by omega) (by omega), if_pos (by omega), dv_ok (by omega) (by omega) (by decide), ad_ok (a := f) (b := m) (by omega) (by omega), ad_ok (by omega) (by omega), Int.tmod_eq_emod_of_nonneg (by omega)]
/-- The blocks that Parent leads to. -/
def chn (p : Pn) : Int → List Int → Prop
  | x, [] => (p.par x).e ≠ 0
  | x, y :: l => (p.par x).e = 0 ∧ (p.par x).block = y ∧ chn p y l
theorem chn_det {p : Pn} : ∀ {l m : List Int} {x : Int}, chn p x l → chn p x m → l = m
  | [], [], _, _, _ => rfl
  | [], y :: m, _, h, k => absurd k.1 h
  | y :: l, [], _, h, k => absurd h.1 k
  | y :: l, z :: m, x, h, k => by
    have e : y = z := h.2.1.symm.trans k.2.1
    subst e
    rw [chn_det h.2.2 k.2.2]
theorem chn_at {p : Pn} : ∀ {A B : List Int} {x y : Int}, chn p x (A ++ y :: B) → chn p y B
  | [], _, _, _, h => h.2.2
  | _ :: A, _, _, _, h => chn_at (A := A) h.2.2
/-- What a path has, from a level on. -/
structure Pth (p : Pn) (f : Int) (l : List Int) (ls : List Int) : Prop where
  ge : ∀ y ∈ l, f ≤ y ∧ y < p.head
  len : l.length = ls.length + 1
  last : l.getLast? = some (p.head - 1)
theorem climb_chn {p : Pn} (h : Mad p) : ∀ (ls : List Int) (a f m : Int), 0 ≤ f → 0 ≤ a → a < m → LvC m ls → f + m + sm ls = p.head → f + m + sm ls ≤ 1000000 →
    (∀ y, f ≤ y → y ≤ 9223372036854775807 → p.par y = parGo y p.top f m ls) → (∀ x, (p.par x).e = 0 → (p.par x).block = f + a → chn p x (climbL a f m ls)) ∧ Pth p f (climbL a f m ls) ls
  | [], a, f, m, hf, ha, ham, hl, hh, hb, hp => by
    have hm : m = 1 := hl
    have ha0 : a = 0 := by omega
    have ht := h.top
    have hd := h.hd
    have hn := h.nd
    unfold sm at hh hb
    have e1 : climbL a f m [] = [f] := by
      show [ad f a] = [f]
      rw [ad_ok (by omega) (by omega), ha0, Int.add_zero]
    rw [e1]
    refine ⟨fun x h1 h2 => ⟨h1, by omega, ?_⟩, ⟨fun y hy => ?_, rfl, ?_⟩⟩
    · show (p.par f).e ≠ 0
      rw [hp f (Int.le_refl _) (by omega), parGo_nil, if_pos (by omega)]
      decide
    · rw [show y = f by simpa using hy]; omega
    · show some f = some (p.head - 1)
      congr 1; omega
  | b :: ls, a, f, m, hf, ha, ham, hl, hh, hb, hp => by
    obtain ⟨h1, h2⟩ := hl
    have h3 := LvC.pos (by omega) h2
    unfold sm at hh hb
    have e1 : climbL a f m (b :: ls) = (f + a) :: climbL (a / 8) (f + m) b ls := by
      show ad f a :: climbL (dv a 8) (ad f m) b ls = _
      rw [ad_ok (by omega) (by omega), ad_ok (by omega) (by omega), dv_ok ha (by omega) (by decide)]
    rw [e1]
    have ih := climb_chn h ls (a / 8) (f + m) b (by omega) (by omega) (by omega) h2 (by omega) (by omega) (fun y hy hy2 => by rw [hp y (by omega) hy2, parGo_skip hf (by omega) hy hy2])
    have hpar : p.par (f + a) = ⟨f + m + (f + a - f) / 8, (f + a - f) % 8, 0⟩ := by
      rw [hp (f + a) (by omega) (by omega), parGo_in hf (by omega) (by omega) (by omega)]
    refine ⟨fun x hx1 hx2 => ⟨hx1, hx2, ih.1 (f + a) (by rw [hpar]) ?_⟩, ⟨fun y hy => ?_, by rw [List.length_cons, ih.2.len, List.length_cons], ?_⟩⟩
    · rw [hpar]
      show f + m + (f + a - f) / 8 = f + m + a / 8
      congr 2; omega
    · rcases List.mem_cons.1 hy with rfl | hy
      · omega
      · have := ih.2.ge y hy
        omega
    · have hl := ih.2.last
      rw [List.getLast?_cons, hl]; rfl
theorem Mad.par_hi {p : Pn} (h : Mad p) : ∀ y, p.pages ≤ y → y ≤ 9223372036854775807 → p.par y = parGo y p.top p.pages p.counters p.levels := fun y hy _ => by
  have := h.pg
  unfold Pn.par
  rw [if_neg (by omega), if_neg (by omega)]
theorem Mad.par_pg {p : Pn} (h : Mad p) {x : Int} (h0 : 0 ≤ x) (h1 : x < p.pages) : p.par x = ⟨p.pages + x / 16, x % 16, 0⟩ := by
  have := h.pg
  unfold Pn.par
  rw [if_neg (by omega), if_pos h1, dv_ok h0 (by omega) (by decide), ad_ok (by omega) (by omega)]
theorem Mad.path {p : Pn} (h : Mad p) {x : Int} (hx : p.has x = true) : chn p x (p.path x) ∧ Pth p p.pages (p.path x) p.levels := by
  have h0 := of_decide_eq_true hx
  have hpg := h.pg
  have hct := h.ct
  have hc := h.c1
  have hs := h.sum
  have hd := h.hd
  have hn := h.nd
  have hpar := h.par_pg h0.1 h0.2
  have key := climb_chn h p.levels (x / 16) p.pages p.counters (by omega) (by omega) (by omega) h.lv (by omega) (by omega) h.par_hi
  unfold Pn.path
  rw [dv_ok h0.1 (by omega) (by decide)]
  exact ⟨key.1 x (by rw [hpar]) (by rw [hpar]), key.2⟩
end Go.Proofs.YtmlladpmecclbaaDoor
/- tree over a plan that Of made: each block's place lies further up, and no two blocks have one place. -/
namespace Go.Proofs.YtmlladpmecclbaaDoor

/-- What a place is, from a level on. -/
theorem parGo_up : ∀ (ls : List Int) (t f m x : Int), 0 ≤ f → 1 ≤ m → LvC m ls → f + m + sm ls ≤ 1000000 → f ≤ x → x < f + m + sm ls →
    (parGo x t f m ls).e ≠ 0 ∨ ((parGo x t f m ls).e = 0 ∧ x < (parGo x t f m ls).block ∧ f + m ≤ (parGo x t f m ls).block ∧ (parGo x t f m ls).block < f + m + sm ls ∧ 0 ≤ (parGo x t f m ls).at' ∧ (parGo x t f m ls).at' < 8)
  | [], t, f, m, x, _, _, _, _, _, _ => by
    left
    rw [parGo_nil]
    by_cases h : x = t
    · rw [if_pos h]; decide
    · rw [if_neg h]; decide
  | a :: ls, t, f, m, x, hf, hm, hl, hb, h1, h2 => by
    obtain ⟨ha, hl'⟩ := hl
    have hp := LvC.pos (show 1 ≤ a by omega) hl'
    have hsm : sm (a :: ls) = a + sm ls := rfl
    rw [hsm] at hb h2 ⊢
    by_cases hx : x < f + m
    · rw [parGo_in hf h1 hx (by omega)]
      right
      refine ⟨rfl, ?_, ?_, ?_, ?_, ?_⟩ <;> simp only <;> omega
    · rw [parGo_skip hf (by omega) (by omega) (by omega)]
      rcases parGo_up ls t (f + m) a x (by omega) (by omega) hl' (by omega) (by omega) (by omega) with h | ⟨h3, h4, h5, h6, h7, h8⟩
      · exact .inl h
      · exact .inr ⟨h3, h4, by omega, by omega, h7, h8⟩
theorem parGo_inj : ∀ (ls : List Int) (t f m x y : Int), 0 ≤ f → 1 ≤ m → LvC m ls → f + m + sm ls ≤ 1000000 → f ≤ x → x < f + m + sm ls → f ≤ y → y < f + m + sm ls →
    (parGo x t f m ls).e = 0 → (parGo y t f m ls).e = 0 → (parGo x t f m ls).block = (parGo y t f m ls).block → (parGo x t f m ls).at' = (parGo y t f m ls).at' → x = y
  | [], t, f, m, x, y, _, _, _, _, _, _, _, _, he, _, _, _ => by
    rw [parGo_nil] at he
    by_cases h : x = t
    · rw [if_pos h] at he; exact absurd he (by decide)
    · rw [if_neg h] at he; exact absurd he (by decide)
  | a :: ls, t, f, m, x, y, hf, hm, hl, hb, h1, h2, h3, h4, ex, ey, eb, ea => by
    obtain ⟨ha, hl'⟩ := hl
    have hp := LvC.pos (show 1 ≤ a by omega) hl'
    have hsm : sm (a :: ls) = a + sm ls := rfl
    rw [hsm] at hb h2 h4
    by_cases hx : x < f + m
    · rw [parGo_in hf h1 hx (by omega)] at ex eb ea
      by_cases hy : y < f + m
      · rw [parGo_in hf h3 hy (by omega)] at ey eb ea
        simp only at eb ea
        omega
      · rw [parGo_skip hf (by omega) (by omega) (by omega)] at ey eb ea
        rcases parGo_up ls t (f + m) a y (by omega) (by omega) hl' (by omega) (by omega) (by omega) with h | ⟨_, _, h5, _, _, _⟩
        · exact absurd ey h
        · simp only at eb
          omega
    · rw [parGo_skip hf (by omega) (by omega) (by omega)] at ex eb ea
      by_cases hy : y < f + m
      · rw [parGo_in hf h3 hy (by omega)] at ey eb ea
        rcases parGo_up ls t (f + m) a x (by omega) (by omega) hl' (by omega) (by omega) (by omega) with h | ⟨_, _, h5, _, _, _⟩
        · exact absurd ex h
        · simp only at eb
          omega
      · rw [parGo_skip hf (by omega) (by omega) (by omega)] at ey eb ea
        exact parGo_inj ls t (f + m) a x y (by omega) (by omega) hl' (by omega) (by omega) (by omega) (by omega) (by omega) ex ey eb ea
/-- The place of the block that is the i-th behind the pages, counted so too. -/
def Pn.parN (p : Pn) (i : Nat) : Option (Nat × Nat) :=
  if (p.par (p.pages + i)).e = 0 then some (((p.par (p.pages + i)).block - p.pages).toNat, (p.par (p.pages + i)).at'.toNat) else none
theorem Mad.parN_up {p : Pn} (h : Mad p) {i : Nat} (hi : (i : Int) < p.counters + p.nodes) : (p.par (p.pages + i)).e ≠ 0 ∨ ((p.par (p.pages + i)).e = 0 ∧ p.pages + i < (p.par (p.pages + i)).block ∧ p.pages + p.counters ≤ (p.par (p.pages + i)).block ∧ (p.par (p.pages + i)).block < p.head ∧ 0 ≤ (p.par (p.pages + i)).at' ∧ (p.par (p.pages + i)).at' < 8) := by
  have h1 := h.pg
  have h2 := h.c1
  have h3 := h.sum
  have h4 := h.nd
  have h5 := h.hd
  rw [h.par_hi (p.pages + i) (by omega) (by omega)]
  have := parGo_up p.levels p.top p.pages p.counters (p.pages + i) (by omega) (by omega) h.lv (by omega) (by omega) (by omega)
  rw [show p.head = p.pages + p.counters + sm p.levels by omega]
  exact this
theorem Mad.tree {p : Pn} (h : Mad p) : Par (p.counters + p.nodes).toNat p.counters.toNat p.parN := by
  have h1 := h.pg
  have h2 := h.c1
  have h3 := h.sum
  have h4 := h.nd
  have h5 := h.hd
  have hp := LvC.pos h2.1 h.lv
  refine ⟨fun i hi b a hpar => ?_, fun i j hi hj x hx hy => ?_⟩
  · unfold Pn.parN at hpar
    rcases h.parN_up (i := i) (by omega) with he | ⟨he, k1, k2, k3, k4, k5⟩
    · rw [if_neg he] at hpar; cases hpar
    · rw [if_pos he] at hpar
      simp only [Option.some.injEq, Prod.mk.injEq] at hpar
      obtain ⟨rfl, rfl⟩ := hpar
      omega
  · unfold Pn.parN at hx hy
    rcases h.parN_up (i := i) (by omega) with he | ⟨he, k1, k2, k3, k4, k5⟩
    · rw [if_neg he] at hx; cases hx
    · rcases h.parN_up (i := j) (by omega) with he' | ⟨he', q1, q2, q3, q4, q5⟩
      · rw [if_neg he'] at hy; cases hy
      · rw [if_pos he] at hx
        rw [if_pos he'] at hy
        have hxy := hx.trans hy.symm
        simp only [Option.some.injEq, Prod.mk.injEq] at hxy
        have eb : (p.par (p.pages + i)).block = (p.par (p.pages + j)).block := by omega
        have ea : (p.par (p.pages + i)).at' = (p.par (p.pages + j)).at' := by omega
        rw [h.par_hi (p.pages + i) (by omega) (by omega)] at he eb ea
        rw [h.par_hi (p.pages + j) (by omega) (by omega)] at he' eb ea
        have := parGo_inj p.levels p.top p.pages p.counters (p.pages + i) (p.pages + j) (by omega) (by omega) h.lv (by omega) (by omega) (by omega) (by omega) (by omega) he he' eb ea
        omega
end Go.Proofs.YtmlladpmecclbaaDoor
/- tree: what Build makes, level by level, keeps the tree's rule; no code in it. -/
namespace Go.Proofs.YtmlladpmecclbaaDoor
open Go.RowKit

abbrev Bk := List Nat
def okB (B : List Bk) : Prop := ∀ x ∈ B, x.length = 256 ∧ ∀ z ∈ x, z < 256
/-- The level above a level that begins at f. -/
def upL (f : Int) (B : List Bk) : List Bk := (List.range ((B.length + 7) / 8)).map (abv (bdL f B) B.length)
theorem upL_len (f : Int) (B : List Bk) : (upL f B).length = (B.length + 7) / 8 := by simp [upL]
theorem upL_get {f : Int} {B : List Bk} {j : Nat} (h : j < (B.length + 7) / 8) : (upL f B).getD j [] = abv (bdL f B) B.length j := by
  simp [upL, List.getD, h]
theorem upL_ok (f : Int) (B : List Bk) : okB (upL f B) := by
  intro x hx
  obtain ⟨j, _, rfl⟩ := List.mem_map.1 hx
  exact abv_ok (L := bdL f B) bdL_wf B.length (by rw [bdL_len]; exact Nat.le_refl _) j
/-- All levels above. -/
def bldL (f : Int) (B : List Bk) : List Int → List Bk
  | [] => []
  | _ :: ls => upL f B ++ bldL (f + B.length) (upL f B) ls
/-- Levels, the first of one node is the last. -/
def Lvl : Int → List Int → Prop
  | _, [] => False
  | m, [a] => a = (m + 7) / 8 ∧ a = 1
  | m, a :: b :: ls => a = (m + 7) / 8 ∧ 1 < a ∧ Lvl a (b :: ls)
theorem Lvl.head : ∀ {ls : List Int} {m : Int}, Lvl m ls → ∃ a ls', ls = a :: ls' ∧ a = (m + 7) / 8 ∧ ((ls' = [] ∧ a = 1) ∨ (1 < a ∧ Lvl a ls'))
  | [], _, h => h.elim
  | [a], _, h => ⟨a, [], rfl, h.1, .inl ⟨rfl, h.2⟩⟩
  | a :: b :: ls, _, h => ⟨a, b :: ls, rfl, h.1, .inr ⟨h.2.1, h.2.2⟩⟩
theorem plan_lvl {n b : Nat} (h1 : 1 ≤ n) (h2 : n ≤ 4096) : Lvl (plan n b).counters (plan n b).levels := by
  have hc1 : 1 ≤ bg n 16 := by unfold bg; omega
  have hc2 : bg n 16 ≤ 256 := by unfold bg; omega
  show Lvl ((bg n 16 : Nat) : Int) (toI (lvs (bg n 16)))
  generalize bg n 16 = c at hc1 hc2
  rcases lvs_shape hc1 hc2 with ⟨a, e⟩ | ⟨a, b, e⟩ | ⟨a, e⟩
  · rw [e]
    exact ⟨by show (1 : Int) = _; omega, rfl⟩
  · rw [e]
    refine ⟨?_, ?_, ?_, rfl⟩
    · show ((bg c 8 : Nat) : Int) = _; unfold bg; omega
    · show 1 < ((bg c 8 : Nat) : Int); unfold bg; omega
    · show (1 : Int) = (((bg c 8 : Nat) : Int) + 7) / 8; unfold bg; omega
  · rw [e]
    refine ⟨?_, ?_, ?_, ?_, ?_, rfl⟩
    · show ((bg c 8 : Nat) : Int) = _; unfold bg; omega
    · show 1 < ((bg c 8 : Nat) : Int); unfold bg; omega
    · show ((bg (bg c 8) 8 : Nat) : Int) = (((bg c 8 : Nat) : Int) + 7) / 8; unfold bg; omega
    · show 1 < ((bg (bg c 8) 8 : Nat) : Int); unfold bg; omega
    · show (1 : Int) = (((bg (bg c 8) 8 : Nat) : Int) + 7) / 8; unfold bg; omega
theorem getD_app_left {α : Type} {a b : List α} {i : Nat} {d : α} (h : i < a.length) : (a ++ b).getD i d = a.getD i d := by simp [List.getD, List.getElem?_append_left h]
theorem getD_app_right {α : Type} {a b : List α} {i : Nat} {d : α} (h : a.length ≤ i) : (a ++ b).getD i d = b.getD (i - a.length) d := by simp [List.getD, List.getElem?_append_right h]
/-- What Build makes: lengths; each digest at its place; nothing where no block's place is. -/
structure Rule (t f : Int) (ls : List Int) (m : Int) (R : List Bk) : Prop where
  len : (R.length : Int) = m + sm ls
  ok : okB R
  kid : ∀ i : Nat, (i : Int) < m + sm ls → (parGo (f + i) t f m ls).e = 0 → ∀ b a : Nat, (parGo (f + i) t f m ls).block = f + b → (parGo (f + i) t f m ls).at' = a → kidL (R.getD b []) a = bd (f + i) (R.getD i [])
  non : ∀ b a : Nat, m ≤ b → (b : Int) < m + sm ls → a < 8 → (∀ i : Nat, (i : Int) < m + sm ls → ¬ ((parGo (f + i) t f m ls).e = 0 ∧ (parGo (f + i) t f m ls).block = f + b ∧ (parGo (f + i) t f m ls).at' = a)) → kidL (R.getD b []) a = z32
theorem bldL_rule : ∀ (ls : List Int) (t f m : Int) (B : List Bk), 0 ≤ f → 1 ≤ m → LvC m ls → f + m + sm ls ≤ 1000000 → (B.length : Int) = m → okB B → Rule t f ls m (B ++ bldL f B ls)
  | [], t, f, m, B, hf, hm, hl, hb, hB, hok => by
    have hs : sm [] = 0 := rfl
    rw [show bldL f B [] = [] by rfl, List.append_nil]
    refine ⟨by rw [hs]; omega, hok, fun i hi he b a _ _ => ?_, fun b a h1 h2 _ _ => ?_⟩
    · rw [parGo_nil] at he
      by_cases h : f + (i : Int) = t
      · rw [if_pos h] at he; exact absurd he (by decide)
      · rw [if_neg h] at he; exact absurd he (by decide)
    · rw [hs] at h2; omega
  | a0 :: ls, t, f, m, B, hf, hm, hl, hb, hB, hok => by
    obtain ⟨ha, hl'⟩ := hl
    have hp := LvC.pos (show 1 ≤ a0 by omega) hl'
    have hs : sm (a0 :: ls) = a0 + sm ls := rfl
    rw [hs] at hb
    have hU : ((upL f B).length : Int) = a0 := by rw [upL_len]; omega
    have ih := bldL_rule ls t (f + m) a0 (upL f B) (by omega) (by omega) hl' (by omega) hU (upL_ok f B)
    rw [show bldL f B (a0 :: ls) = upL f B ++ bldL (f + m) (upL f B) ls by show upL f B ++ bldL (f + (B.length : Int)) (upL f B) ls = _; rw [hB]]
    obtain ⟨R, hR⟩ : ∃ R, R = upL f B ++ bldL (f + m) (upL f B) ls := ⟨_, rfl⟩
    have hR0 : ∀ j, j < (B.length + 7) / 8 → R.getD j [] = abv (bdL f B) B.length j := fun j hj => by
      rw [hR, getD_app_left (by rw [upL_len]; exact hj), upL_get hj]
    rw [← hR] at ih ⊢
    clear hR
    obtain ⟨i1, i2, i3, i4⟩ := ih
    have hkid : ∀ j a, a < 8 → kidL (abv (bdL f B) B.length j) a = if 8 * j + a < B.length then (bdL f B).getD (8 * j + a) [] else z32 := fun j a h => abv_kid (L := bdL f B) bdL_wf B.length (by rw [bdL_len]; exact Nat.le_refl _) j a h
    refine ⟨?_, ?_, ?_, ?_⟩
    · rw [List.length_append, hs]; omega
    · intro x hx
      rcases List.mem_append.1 hx with hx | hx
      · exact hok x hx
      · exact i2 x hx
    · rw [hs]
      intro i hi he b a hbk hat
      by_cases hx : (i : Int) < m
      · rw [parGo_in hf (by omega) (by omega) (by omega)] at hbk hat
        simp only at hbk hat
        have hbe : b = B.length + i / 8 := by omega
        have hae : a = i % 8 := by omega
        subst hbe hae
        rw [getD_app_right (by omega), show B.length + i / 8 - B.length = i / 8 by omega, hR0 _ (by omega), hkid _ _ (by omega), if_pos (by omega), show 8 * (i / 8) + i % 8 = i by omega, bdL_get f (by omega), getD_app_left (by omega)]
      · obtain ⟨i', rfl⟩ : ∃ i', i = B.length + i' := ⟨i - B.length, by omega⟩
        have ef : f + ((B.length + i' : Nat) : Int) = f + m + (i' : Int) := by omega
        rw [ef] at he hbk hat
        rw [parGo_skip hf (by omega) (by omega) (by omega)] at he hbk hat
        have hup := parGo_up ls t (f + m) a0 (f + m + i') (by omega) (by omega) hl' (by omega) (by omega) (by omega)
        have hge : f + m + a0 ≤ (parGo (f + m + i') t (f + m) a0 ls).block := by
          rcases hup with h | h
          · exact absurd he h
          · exact h.2.2.1
        obtain ⟨b', rfl⟩ : ∃ b', b = B.length + b' := ⟨b - B.length, by omega⟩
        rw [getD_app_right (by omega), getD_app_right (by omega), show B.length + b' - B.length = b' by omega, show B.length + i' - B.length = i' by omega, ef]
        exact i3 i' (by omega) he b' a (by omega) hat
    · rw [hs]
      intro b a h1 h2 h3 h4
      obtain ⟨b', rfl⟩ : ∃ b', b = B.length + b' := ⟨b - B.length, by omega⟩
      rw [getD_app_right (by omega), show B.length + b' - B.length = b' by omega]
      by_cases hx : (b' : Int) < a0
      · rw [hR0 _ (by omega), hkid _ _ h3]
        by_cases hlt : 8 * b' + a < B.length
        · exfalso
          refine h4 (8 * b' + a) (by omega) ?_
          rw [parGo_in hf (by omega) (by omega) (by omega)]
          refine ⟨rfl, ?_, ?_⟩ <;> simp only <;> omega
        · rw [if_neg hlt]
      · refine i4 b' a (by omega) (by omega) h3 (fun i hi hq => h4 (B.length + i) (by omega) ?_)
        have ef : f + ((B.length + i : Nat) : Int) = f + m + (i : Int) := by omega
        rw [ef, parGo_skip hf (by omega) (by omega) (by omega)]
        exact ⟨hq.1, by omega, hq.2.2⟩
/-- What stands in the blocks behind the pages. -/
def treeOf (p : Pn) (C : List Bk) : List Bk := C ++ bldL p.pages C p.levels
def ini (C : List Bk) (j : Nat) : Bk := if j < C.length then C.getD j [] else z256
def Pn.dig (p : Pn) (i : Nat) (b : Bk) : List Nat := bd (p.pages + i) b
theorem treeOf_rule {p : Pn} (h : Mad p) {C : List Bk} (hC : (C.length : Int) = p.counters) (ho : okB C) : Rule p.top p.pages p.levels p.counters (treeOf p C) := by
  have h1 := h.pg
  have h2 := h.c1
  have h3 := h.sum
  exact bldL_rule p.levels p.top p.pages p.counters C (by omega) (by omega) h.lv (by omega) hC ho
theorem treeOf_len {p : Pn} (h : Mad p) {C : List Bk} (hC : (C.length : Int) = p.counters) (ho : okB C) : (treeOf p C).length = (p.counters + p.nodes).toNat := by
  have h1 := (treeOf_rule h hC ho).len
  have h2 := h.nd
  omega
theorem treeOf_eq {p : Pn} (h : Mad p) {C : List Bk} (hC : (C.length : Int) = p.counters) (ho : okB C) :
    ∀ j, j < (p.counters + p.nodes).toNat → (treeOf p C).getD j [] = stN p.dig p.parN (ini C) (p.counters + p.nodes).toNat j := by
  have hr := treeOf_rule h hC ho
  have h1 := h.pg
  have h2 := h.c1
  have h3 := h.sum
  have h4 := h.nd
  have h5 := h.hd
  have hsm := (LvC.pos h2.1 h.lv).2
  have hlen := treeOf_len h hC ho
  have hpar : ∀ i : Nat, (i : Int) < p.counters + p.nodes → p.par (p.pages + i) = parGo (p.pages + i) p.top p.pages p.counters p.levels := fun i hi => h.par_hi _ (by omega) (by omega)
  refine tree_uniq h.tree (fun i b => bd_len _ _) (fun j hj => ?_) (fun j hj => ?_) (fun j hc hj => ?_) (fun i hi b a hp => ?_) (fun b hcb hb a ha hno => ?_)
  · unfold ini
    by_cases hlt : j < C.length
    · rw [if_pos hlt]; exact (ho _ (by simp [List.getD, hlt])).1
    · rw [if_neg hlt]; exact z256_len
  · exact (hr.ok _ (by simp [List.getD, show j < (treeOf p C).length by omega])).1
  · have hlt : j < C.length := by omega
    unfold ini treeOf
    rw [if_pos hlt, getD_app_left hlt]
  · have hup := h.parN_up (i := i) (by omega)
    rw [hpar i (by omega)] at hup
    unfold Pn.parN at hp
    rw [hpar i (by omega)] at hp
    rcases hup with he | ⟨he, k1, k2, k3, k4, k5⟩
    · rw [if_neg he] at hp; cases hp
    · rw [if_pos he] at hp
      simp only [Option.some.injEq, Prod.mk.injEq] at hp
      obtain ⟨rfl, rfl⟩ := hp
      exact hr.kid i (by omega) he _ _ (by omega) (by omega)
  · have e : kidL (ini C b) a = z32 := by
      unfold ini
      rw [if_neg (by omega)]
      exact kid_z ha
    rw [e]
    refine hr.non b a (by omega) (by omega) ha (fun i hi hq => hno i (by omega) ?_)
    unfold Pn.parN
    rw [hpar i (by omega), if_pos hq.1]
    congr 2 <;> omega
end Go.Proofs.YtmlladpmecclbaaDoor
/- tree: Build. -/
namespace Go.Proofs.YtmlladpmecclbaaDoor
open Go.RowKit

theorem results_tct {P : Program} {fn : Func} {s p u : Tmp} {ty : TypeId} (h : fn.results = #[.tmp s, .cell p ty, .tmp u]) (tmps : Array Value) (w : World) (g : Nat) (t : TypeId) (cs : Array Value) (d : TypeDesc) (v0 v : Value)
    (h0 : tmps.getD s undef = v0) (hp : tmps.getD p undef = .pointer (some ⟨g, 0, none⟩)) (hg : w.heap[g]? = some (.cells cs t (0, 0))) (hu : P.underlying ty = some d) (hd : (match d with | .struct _ | .array _ _ => true | _ => false) = true) (hi : (P.info? ty).map (·.size) = some cs.size) (hv : tmps.getD u undef = v) :
    (results fn tmps).run P w = .ok (.tuple #[v0, .agg cs, v]) w := by
  have h0' : tmps[s]?.getD undef = v0 := by simpa using h0
  have hp' : tmps[p]?.getD undef = .pointer (some ⟨g, 0, none⟩) := by simpa using hp
  have hv' : tmps[u]?.getD undef = v := by simpa using hv
  simp [results, h, h0', hp', hv', asAddr, run_loadVar_row w g t ty cs (0, 0) d hg hu hd hi]
/-- What Build lays ahead: its plan in a box, a variable for the root. -/
structure BdM (w : World) (p : Pn) (pv : Value) (Z : List Value) (W0 W1 : World) (gp g7 : Nat) : Prop where
  e0 : W0 = w.alloc (.cells (pcells p pv).toArray 25)
  e1 : W1 = W0.alloc (.cells Z.toArray 31)
  ep : gp = w.heap.size
  e7 : g7 = w.heap.size + 1
  grow : Grow w W1
  box : Blk W1 gp 25 (pcells p pv)
  var : Blk W1 g7 31 Z
  low : w.heap.size < g7
theorem bd_begin (w : World) (p : Pn) (pv : Value) (Z : List Value) : ∃ W0 W1 gp g7, BdM w p pv Z W0 W1 gp g7 := by
  refine ⟨_, _, _, _, rfl, rfl, rfl, rfl, ((But.refl _ w).alloc _).alloc _, ?_, Blk.new (by simp), by omega⟩
  exact Blk.but (R := fun _ => False) (Blk.new rfl) ((But.refl _ _).alloc _) (fun h => h)
set_option maxRecDepth 100000 in
set_option maxHeartbeats 4000000 in
theorem build_no {w : World} {lv v : Value} {p : Pn} {pv : Value} {C : List Bk} (hv : Ps w v C) (hn : C.length = 0 ∨ (C.length : Int) ≠ p.counters) (hl : C.length ≤ 1000000) :
    Calls Tryd.prog 8 #[lv, pval p pv, v] w fun e w' => e = .returned (.tuple #[.slice none 0 0, dkey z32, .int .i64 1]) ∧ Grow w w' := by
  obtain ⟨Z, hZ⟩ : ∃ Z, Z = u8s z32 := ⟨_, rfl⟩
  have hz := z32v
  have hbz := bz32
  rw [← hZ] at hz hbz
  have HZL : Hid (Z.length = 32) := by show _ = _; rw [hZ]; rfl
  have HZE := Hid.mk' hZ
  have HBZ := Hid.mk' hbz
  obtain ⟨W0, W1, gp, g7, hM⟩ := bd_begin w p pv Z
  have HM := Hid.mk' hM
  have c2 : W1.cell? ⟨gp, 2, none⟩ = some (.int .i64 p.counters) := hM.box.cell 2
  have hd : dkey z32 = .agg Z.toArray := by rw [hZ]; rfl
  rw [hd]
  obtain ⟨a0, n, hve⟩ : ∃ a0 c, v = .slice a0 C.length c := by obtain ⟨a, c, e, _⟩ := hv.gen; exact ⟨a, c, e⟩
  generalize p.counters = q at *
  generalize C.length = cl at *
  subst hve
  unfold pval
  obtain ⟨N, hN⟩ : ∃ N, N = (pcells p pv).toArray := ⟨_, rfl⟩
  have hE0 := hM.e0
  rw [← hN] at hE0
  have HE0 := Hid.mk' hE0
  rw [← hN]
  clear hM hZ hbz hN hE0 hd hv
  have hend : ∀ W9, Blk W9 g7 31 ([] ++ Z ++ []) → But (· = g7) W1 W9 → Grow w W9 := fun W9 _ k => HM.out.grow.then k (fun i hi e => by have := HM.out.low; omega)
  have HEND := Hid.mk' hend
  clear hend
  by_cases h0 : cl = 0
  · subst h0
    go_enter Tryd.func8, Tryd.ntmps8
    go_upto_region 1 with fail
    rw [← HE0.out, ← HM.out.e1, ← HM.out.e7, ← HM.out.ep]
    go_wp2_with (first
      | (refine wpList_build_run rfl _ [] rfl [] rfl _ (HBZ.out _) ?_)
      | (refine wpList_store_at rfl _ _ _ rfl g7 0 Z rfl rfl 31 [] Z [] (by rw [List.nil_append, List.append_nil]; exact HM.out.var) rfl rfl (by rw [i32, HZL.out]) (by rw [HZE.out]; exact u8s_one _) ?_; intro W9 hb9 hbut9)
      | fail)
    have hg9 := HEND.out W9 hb9 hbut9
    rw [List.nil_append, List.append_nil] at hb9
    exact bodyPost_ret (results_tct rfl _ _ g7 _ _ _ _ _ rfl rfl hb9 ukt rfl (by rw [i32]; simp [HZL.out]) rfl) rfl ⟨rfl, hg9⟩
  · have hq : (cl : Int) ≠ q := by
      rcases hn with h | h
      · exact absurd h h0
      · exact h
    have hne : ((cl : Int) != q) = true := by simpa using hq
    have h00 : ((cl : Int) == 0) = false := by
      have : (cl : Int) ≠ 0 := by omega
      simpa using this
    clear hn h0 hq
    go_enter Tryd.func8, Tryd.ntmps8
    go_upto_region 1 with fail
    rw [← HE0.out, ← HM.out.e1, ← HM.out.e7, ← HM.out.ep]
    go_wp2_with (first
      | (refine wpList_build_run rfl _ [] rfl [] rfl _ (HBZ.out _) ?_)
      | (refine wpList_store_at rfl _ _ _ rfl g7 0 Z rfl rfl 31 [] Z [] (by rw [List.nil_append, List.append_nil]; exact HM.out.var) rfl rfl (by rw [i32, HZL.out]) (by rw [HZE.out]; exact u8s_one _) ?_; intro W9 hb9 hbut9)
      | fail)
    have hg9 := HEND.out W9 hb9 hbut9
    rw [List.nil_append, List.append_nil] at hb9
    exact bodyPost_ret (results_tct rfl _ _ g7 _ _ _ _ _ rfl rfl hb9 ukt rfl (by rw [i32]; simp [HZL.out]) rfl) rfl ⟨rfl, hg9⟩
set_option maxRecDepth 100000 in
set_option maxHeartbeats 4000000 in
theorem build_form {w : World} {lv v : Value} {p : Pn} {pv : Value} {C : List Bk} (hv : Ps w v C) (hn : (C.length : Int) = p.counters) (h0 : 0 < C.length) (hw : whl C = false) (hl : C.length ≤ 1000000) :
    Calls Tryd.prog 8 #[lv, pval p pv, v] w fun e w' => e = .returned (.tuple #[.slice none 0 0, dkey z32, .int .i64 3]) ∧ Grow w w' := by
  obtain ⟨Z, hZ⟩ : ∃ Z, Z = u8s z32 := ⟨_, rfl⟩
  have hz := z32v
  have hbz := bz32
  rw [← hZ] at hz hbz
  have HZL : Hid (Z.length = 32) := by show _ = _; rw [hZ]; rfl
  have HZE := Hid.mk' hZ
  have HBZ := Hid.mk' hbz
  obtain ⟨W0, W1, gp, g7, hM⟩ := bd_begin w p pv Z
  have HM := Hid.mk' hM
  have c2 : W1.cell? ⟨gp, 2, none⟩ = some (.int .i64 p.counters) := hM.box.cell 2
  have HWH := Hid.mk' (whole_any (hv.below hM.grow) hl)
  rw [hw] at HWH
  have hd : dkey z32 = .agg Z.toArray := by rw [hZ]; rfl
  rw [hd]
  obtain ⟨a0, n, hve⟩ : ∃ a0 c, v = .slice a0 C.length c := by obtain ⟨a, c, e, _⟩ := hv.gen; exact ⟨a, c, e⟩
  rw [← hn] at c2
  generalize C.length = cl at *
  subst hve
  unfold pval
  obtain ⟨N, hN⟩ : ∃ N, N = (pcells p pv).toArray := ⟨_, rfl⟩
  have hE0 := hM.e0
  rw [← hN] at hE0
  have HE0 := Hid.mk' hE0
  rw [← hN]
  have h00 : ((cl : Int) == 0) = false := by
    have : (cl : Int) ≠ 0 := by omega
    simpa using this
  clear hM hZ hbz hN hE0 hd hv hw hn
  have hend : ∀ W9, Blk W9 g7 31 ([] ++ Z ++ []) → But (· = g7) W1 W9 → Grow w W9 := fun W9 _ k => HM.out.grow.then k (fun i hi e => by have := HM.out.low; omega)
  have HEND := Hid.mk' hend
  clear hend
  go_enter Tryd.func8, Tryd.ntmps8
  go_upto_region 1 with fail
  rw [← HE0.out, ← HM.out.e1, ← HM.out.e7, ← HM.out.ep]
  go_wp2_with fail
  refine Calls.mono HWH.out ?_
  rintro e w1 ⟨rfl, hw⟩
  have h2 := hw.symm
  subst h2
  clear hw
  go_wp2_with (first
    | (refine wpList_build_run rfl _ [] rfl [] rfl _ (HBZ.out _) ?_)
    | (refine wpList_store_at rfl _ _ _ rfl g7 0 Z rfl rfl 31 [] Z [] (by rw [List.nil_append, List.append_nil]; exact HM.out.var) rfl rfl (by rw [i32, HZL.out]) (by rw [HZE.out]; exact u8s_one _) ?_; intro W9 hb9 hbut9)
    | fail)
  have hg9 := HEND.out W9 hb9 hbut9
  rw [List.nil_append, List.append_nil] at hb9
  exact bodyPost_ret (results_tct rfl _ _ g7 _ _ _ _ _ rfl rfl hb9 ukt rfl (by rw [i32]; simp [HZL.out]) rfl) rfl ⟨rfl, hg9⟩
end Go.Proofs.YtmlladpmecclbaaDoor
/- plan: Path. -/
namespace Go.Proofs.YtmlladpmecclbaaDoor
open Go.RowKit

/-- What memory is amid Path: the row so far is in the variable g. -/
structure PathI (g : Nat) (F : Nat → Prop) (w : World) (ds : List Int) : Prop where
  ex : ∃ r, Blk w g 23 [r] ∧ w.ownsRow 0 3 1 r ds.length (numv ds) ∧ ∀ k, r.ownBlock = some k → ¬ F k ∧ k ≠ g
  nf : ¬ F g
  lt : ∀ b, F b → b < w.heap.size
theorem PathI.same {g : Nat} {F : Nat → Prop} {w w' : World} {ds : List Int} (h : PathI g F w ds) (k : Grow w w') : PathI g F w' ds := by
  obtain ⟨r, h1, h2, h3⟩ := h.ex
  exact ⟨⟨r, h1.but k (fun h => h), ownsRow_grow h2 k, h3⟩, h.nf, fun b hb => Nat.lt_of_lt_of_le (h.lt b hb) k.size⟩
theorem PathI.new {g : Nat} {F : Nat → Prop} {w w' : World} {ds : List Int} (h : PathI g F w ds) (k : Grow w w') : PathI g (FF F w w') w' ds := by
  obtain ⟨r, h1, h2, h3⟩ := h.ex
  refine ⟨⟨r, h1.but k (fun h => h), ownsRow_grow h2 k, fun j hj => ⟨fun hf => ?_, (h3 j hj).2⟩⟩, fun hf => ?_, fun b hb => ?_⟩
  · rcases hf with hf | hf
    · exact (h3 j hj).1 hf
    · have := (World.ownsRow.lt h2 j hj).2
      omega
  · rcases hf with hf | hf
    · exact h.nf hf
    · have := h1.lt
      omega
  · rcases hb with hb | hb
    · exact Nat.lt_of_lt_of_le (h.lt b hb) k.size
    · exact hb.2
set_option maxRecDepth 100000 in
theorem path1_any (g : Nat) (F : Nat → Prop) (w : World) (ds : List Int) (x : Int) (h : PathI g F w ds) (hl : ds.length ≤ 100000) : Calls Tryd.prog 41 #[.int .i64 x, ptr g] w fun e w' => e = .returned (.bool true) ∧ PathI g F w' (ds ++ [x]) ∧ But (fun b => ¬ F b) w w' := by
  obtain ⟨r, hb, hr, hn⟩ := h.ex
  have c0 : w.cell? ⟨g, 0, none⟩ = some r := hb.cell 0
  obtain ⟨ra, rc, hre⟩ := own_sl hr
  have HR := Hid.mk' hr
  have HB := Hid.mk' hb
  have HN := Hid.mk' hn
  have HH := Hid.mk' h
  have HL := Hid.mk' hl
  obtain ⟨dl, hdl⟩ : ∃ n, n = ds.length := ⟨_, rfl⟩
  rw [← hdl] at HR hre
  have HDL := Hid.mk' hdl
  have HAL : Hid (Grow w (w.alloc (.cells #[.int .i64 x] 3))) := (But.refl _ w).alloc _
  have HBL : Hid (Blk (w.alloc (.cells #[.int .i64 x] 3)) w.heap.size 3 (numv [x])) := Blk.new (L := numv [x]) rfl
  clear hb hr hn h hl hdl
  subst hre
  go_enter Tryd.func41, Tryd.ntmps41
  go_wp2_with (first
    | (refine wpList_runH rfl (exec_row1 (v := .int .i64 x) Tryd.underlying23 infNum (by decide) (by decide) rfl rfl rfl) ?_)
    | (refine wpList_someH rfl (exec_append (v := .slice ra dl rc) (n := dl) (xs := numv ds) (news := numv [x]) Tryd.underlying23 infNum rfl (by decide) rfl rfl (ownsRow_grow HR.out HAL.out) rfl rfl (fun j u hj => HBL.out.cells0 j u hj) (fun u hu => by rw [show u = .int .i64 x by simpa [numv] using hu]; rfl) (by have := HL.out; have := HDL.out; omega) (by decide)) ?_; intro v4 w4 hap
       obtain ⟨va, vc, e4⟩ := own_sl hap.own
       subst e4
       have hb4 : Blk w4 g 23 [.slice ra dl rc] := (HB.out.but HAL.out (fun h => h)).but hap.but (fun e => (HN.out g e).2 rfl))
    | (refine wpList_store1 (g := g) (i := 0) rfl iSl rfl rfl rfl rfl hb4 (show 0 < 1 by decide) ?_; intro w5 hb5 hbut5)
    | fail)
  have hn4 : ∀ k, (Value.slice va (dl + 1) vc).ownBlock = some k → ¬ F k ∧ k ≠ g := fun k hk => by
    rcases hap.at' with e | e
    · exact HN.out k (by rw [← e]; exact hk)
    · rw [e] at hk
      have h9 := Option.some.inj hk
      have hs := HAL.out.size
      have := HB.out.lt
      refine ⟨fun hf => ?_, by omega⟩
      have := HH.out.lt k hf
      omega
  have hk4 : But (fun b => ¬ F b) w w4 := (HAL.out.mono (fun _ _ h => h.elim)).then hap.but (fun b hb e => (HN.out b e).1)
  have hk5 : But (fun b => ¬ F b) w w5 := hk4.then hbut5 (fun b hb e => by rw [e]; exact HH.out.nf)
  have hd1 : (ds ++ [x]).length = dl + 1 := by rw [List.length_append, List.length_singleton, ← HDL.out]
  go_ret
  refine ⟨rfl, ⟨⟨_, hb5, ?_, hn4⟩, HH.out.nf, fun b hb => Nat.lt_of_lt_of_le (HH.out.lt b hb) hk5.size⟩, hk5⟩
  rw [hd1, show numv (ds ++ [x]) = numv ds ++ numv [x] by simp [numv]]
  exact ownsRow_but hap.own hbut5 (fun j hj e => (hn4 j hj).2 e)
theorem run_true : ∀ (l ds : List Int), runB (fun _ _ => true) ds l = ds ++ l
  | [], ds => (List.append_nil ds).symm
  | x :: t, ds => by rw [runB_cons, if_pos rfl, run_true t (ds ++ [x]), List.append_assoc]; rfl
def PathTo (w : World) (l : List Int) (e : Ending) (w' : World) : Prop := ∃ v, e = .returned (.tuple #[v, .int .i64 0]) ∧ Own w w' v l ∧ Grow w w'
theorem ent1 (a : Array Value) (w : World) : (callFunc 41 a).run Tryd.prog w = .ok (.enter 41 a) w := by
  kernel_rfl
theorem zSl (w : World) : (zeroValue 23).run Tryd.prog w = .ok (.slice none 0 0) w := by kernel_rfl
set_option maxRecDepth 100000 in
theorem path_not (w : World) (p : Pn) (v : Value) (x : Int) (h : p.has x = false) : Calls Tryd.prog 27 #[pval p v, .int .i64 x] w fun e w' => e = .returned (.tuple #[noS, .int .i64 1]) ∧ Grow w w' := by
  obtain ⟨W, gp, hbx⟩ := box_pl w p v
  have HW := Hid.mk' hbx.ew
  have HGP := Hid.mk' hbx.eg
  have HG := Hid.mk' hbx.grow
  have HCW : Hid (∀ j u, (pcells p v)[j]? = some u → W.cell? ((⟨gp, 0, none⟩ : Addr).add j) = some u) := fun j u hj => by
    rw [addr_add, Nat.zero_add, hbx.blk.cell j]; exact hj
  have HTH := Hid.mk' (there_any W p v x)
  rw [h] at HTH
  unfold pval
  obtain ⟨N, hN⟩ : ∃ N, N = (pcells p v).toArray := ⟨_, rfl⟩
  rw [← hN] at HW ⊢
  clear hbx hN h
  go_enter Tryd.func27, Tryd.ntmps27
  go_upto_region 1 with fail
  rw [← HW.out, ← HGP.out]
  clear HW HGP
  go_wp2_with (first
    | (refine wpList_load_cells rfl _ _ rfl ⟨gp, 0, none⟩ rfl (pcells p v) _ HCW.out Tryd.underlying25 rfl iPl ?_)
    | fail)
  refine Calls.mono HTH.out ?_
  rintro e w2 ⟨rfl, hg2⟩
  have HG2 := Hid.mk' (HG.out.trans hg2)
  clear hg2 HTH HCW
  go_wp2
  exact bodyPost_ret (results_tmp2 rfl _ _ _) rfl ⟨rfl, HG2.out⟩
set_option maxRecDepth 100000 in
theorem path_any (w : World) (p : Pn) (v : Value) (x : Int) (h : p.has x = true) (hv : Nums w v p.levels) (hlen : p.levels.length ≤ 100000) : Calls Tryd.prog 27 #[pval p v, .int .i64 x] w (PathTo w (p.path x)) := by
  obtain ⟨W, gp, hbx⟩ := box_pl w p v
  have HW := Hid.mk' hbx.ew
  have HGP := Hid.mk' hbx.eg
  have HBX := Hid.mk' hbx
  have HV := Hid.mk' hv
  have HLN := Hid.mk' hlen
  have HCW : Hid (∀ j u, (pcells p v)[j]? = some u → W.cell? ((⟨gp, 0, none⟩ : Addr).add j) = some u) := fun j u hj => by
    rw [addr_add, Nat.zero_add, hbx.blk.cell j]; exact hj
  have HTH := Hid.mk' (there_any W p v x)
  rw [h] at HTH
  unfold pval
  obtain ⟨N, hN⟩ : ∃ N, N = (pcells p v).toArray := ⟨_, rfl⟩
  rw [← hN] at HW ⊢
  clear hbx hN h hv hlen
  go_enter Tryd.func27, Tryd.ntmps27
  go_upto_region 1 with fail
  rw [← HW.out, ← HGP.out]
  clear HW HGP
  go_wp2_with (first
    | (refine wpList_load_cells rfl _ _ rfl ⟨gp, 0, none⟩ rfl (pcells p v) _ HCW.out Tryd.underlying25 rfl iPl ?_)
    | fail)
  refine Calls.mono HTH.out ?_
  rintro e w2 ⟨rfl, hg2⟩
  have HG2 := Hid.mk' (HBX.out.grow.trans hg2)
  obtain ⟨g, hg⟩ : ∃ g, g = w2.heap.size := ⟨_, rfl⟩
  obtain ⟨w3, hw3⟩ : ∃ w3, w3 = w2.alloc (.cells #[noS] 23) := ⟨_, rfl⟩
  have hb3 : Blk w3 g 23 [noS] := by rw [hw3]; exact Blk.new (L := [noS]) hg.symm
  have hg3 : Grow w2 w3 := by rw [hw3]; exact (But.refl _ w2).alloc _
  have HCW3 : Hid (∀ j u, (pcells p v)[j]? = some u → w3.cell? ((⟨gp, 0, none⟩ : Addr).add j) = some u) := fun j u hj => by
    rw [addr_add, Nat.zero_add, ((HBX.out.blk.but hg2 (fun h => h)).but hg3 (fun h => h)).cell j]; exact hj
  have HG3 := Hid.mk' (HG2.out.trans hg3)
  have HCL := Hid.mk' (climb_any w3 p v x 41 g (PathI g) (fun _ _ => true) (fun b => b < w.heap.size) (HV.out.grow HG3.out) HLN.out HV.out.low
    ⟨⟨noS, hb3, World.ownsRow_nil _ _ _ _, fun k hk => by cases hk⟩, (by have := HG2.out.size; omega), (fun b hb => Nat.lt_of_lt_of_le hb HG3.out.size)⟩
    ent1 (fun F w w' ds h k => h.same k) (fun F w w' ds h k => h.new k) (fun F w ds x h _ hl => path1_any g F w ds x h hl))
  rw [run_true, List.nil_append] at HCL
  have HW3 := Hid.mk' hw3
  have HGE := Hid.mk' hg
  clear hg2 HTH HCW hg hw3 hb3 hg3
  go_upto_region 4 with (first
    | fail)
  rw [← HW3.out, ← HGE.out]
  clear HW3 HGE
  go_wp2_with (first
    | (refine wpList_load_cells rfl _ _ rfl ⟨gp, 0, none⟩ rfl (pcells p v) _ HCW3.out Tryd.underlying25 rfl iPl ?_)
    | fail)
  refine Calls.mono HCL.out ?_
  rintro e w5 ⟨rfl, ⟨F', hF', hI⟩, hb⟩
  obtain ⟨r, hb5, hr5, hn5⟩ := hI.ex
  have c5 : w5.cell? ⟨g, 0, none⟩ = some r := hb5.cell 0
  have HO : Hid (Own w w5 r (p.path x)) := ⟨hr5, fun k hk => by
    have h1 := (hn5 k hk).1
    rcases Nat.lt_or_ge k w.heap.size with h2 | h2
    · exact absurd (hF' k h2) h1
    · exact h2⟩
  have HG5 : Hid (Grow w w5) := HG3.out.then hb (fun i hi h => h hi)
  obtain ⟨va, vc, e5⟩ := own_sl hr5
  subst e5
  clear hI hb hr5 hn5 hb5 hF' HCL
  go_wp2
  exact bodyPost_ret (results_tmp2 rfl _ _ _) rfl ⟨_, rfl, HO.out, HG5.out⟩
end Go.Proofs.YtmlladpmecclbaaDoor
/- plan: Need. -/
namespace Go.Proofs.YtmlladpmecclbaaDoor
open Go.RowKit Go.Maps

def ins (S : List Int) (x : Int) : List Int := if x ∈ S then S else S ++ [x]
def adds (S ds : List Int) : List Int := ds.foldl ins S
theorem adds_more (S ds : List Int) (x : Int) : adds S (ds ++ [x]) = ins (adds S ds) x := by unfold adds; rw [List.foldl_append]; rfl
theorem mem_ins {S : List Int} {x y : Int} : y ∈ ins S x ↔ y ∈ S ∨ y = x := by
  unfold ins
  split
  · rename_i h
    exact ⟨.inl, fun h2 => h2.elim id (fun e => by rw [e]; exact h)⟩
  · simp
theorem ins_nodup {S : List Int} (h : S.Nodup) (x : Int) : (ins S x).Nodup := by
  unfold ins
  split
  · exact h
  · rename_i hx
    rw [List.nodup_append]
    refine ⟨h, by simp, fun a ha b hb e => ?_⟩
    simp at hb
    subst hb
    exact hx (by rw [← e]; exact ha)
abbrev unit0 : Int → Value := fun _ => .agg #[]
/-- Whether a path goes on. -/
def more (S ds : List Int) (y : Int) : Bool := !decide (y ∈ adds S ds)
def addP (p : Pn) (S : List Int) (x : Int) : List Int := if p.has x then adds (ins S x) (runB (more (ins S x)) [] (p.path x)) else S
theorem fold_take {α β : Type} (f : α → β → α) (a : α) (l : List β) (i : Nat) (x : β) (h : l[i]? = some x) : (l.take (i + 1)).foldl f a = f ((l.take i).foldl f a) x := by
  have h3 := List.getElem?_eq_some_iff.1 h
  rw [List.take_succ_eq_append_getElem h3.1, List.foldl_append, h3.2]; rfl
end Go.Proofs.YtmlladpmecclbaaDoor
