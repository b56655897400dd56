/- Maps in memory that are ranged over: what a look-up tells, what an update, a delete and a clear leave, and what a range hands out. -/
import Derived.Test.YtlfppgdaoijklaaMapMem
import Derived.Maps.Range
import Derived.Maps.RangeRun
namespace Go.Proofs.Ytlfppgdaoijklaa
open Go.RowKit Go.ChangeMaps Go.WideMaps Go.MapKept Go.Maps
section
variable {P : Program} {w w' : World} {b r : Nat} {M L : List (Value × Value)} {t kt et : TypeId}

/-- A map's block: these keys, each with its element; each entry bears a stamp of its own. -/
structure Mq (P : Program) (kt : TypeId) (w : World) (b : Nat) (M : List (Value × Value)) : Prop where
  blk : ∃ es clock, w.heap[b]? = some (.map es clock) ∧ es.toList.map (fun e => (e.key, e.val)) = M ∧ (∀ x ∈ es.toList, x.born < clock) ∧ (es.toList.map (·.born)).Nodup
  key : ∀ p ∈ M, ∃ l, keyOf P kt p.1 = some l
  apart : M.Pairwise (fun p q => p.1 ≠ q.1)
theorem Mq.mp (h : Mq P kt w b M) : Mp P kt w b M := by
  obtain ⟨⟨es, c, h1, h2, -⟩, h3, h4⟩ := h
  exact ⟨⟨es, c, h1, h2⟩, h3, h4⟩
theorem Mq.lt (h : Mq P kt w b M) : b < w.heap.size := h.mp.lt
theorem Mq.but {R : Nat → Prop} (h : Mq P kt w b M) (k : But R w w') (hr : ¬ R b) : Mq P kt w' b M := by
  have hl := h.lt
  obtain ⟨⟨es, c, h1, h2⟩, h3, h4⟩ := h
  exact ⟨⟨es, c, (k.block b hl hr).trans h1, h2⟩, h3, h4⟩
theorem Mq.new (g : Nat) (h : w.heap.size = g) : Mq P kt (w.alloc (.map #[] 0)) g [] := by
  subst h
  exact ⟨⟨#[], 0, heap_alloc_new _ _, rfl, fun x hx => absurd hx (by simp), by simp⟩, fun p hp => absurd hp List.not_mem_nil, .nil⟩
theorem Mq.uniq (h : Mq P kt w b M) {k u v : Value} (hu : (k, u) ∈ M) (hv : (k, v) ∈ M) : u = v := h.mp.uniq hu hv
theorem Mq.look (K : Keyed P kt) (ht : P.underlying t = some (.map kt et)) {z : Value} (hz : (zeroValue et).run P w = .ok z w) (h : Mq P kt w b M) {key : Value} {l : Lit} (hkey : keyOf P kt key = some l) (c : Bool) :
    (∀ v, (key, v) ∈ M → (Instr.lookup t (.map (some b)) key c).run P w = .ok (if c then .tuple #[v, .bool true] else v) w) ∧ ((∀ p ∈ M, p.1 ≠ key) → (Instr.lookup t (.map (some b)) key c).run P w = .ok (if c then .tuple #[z, .bool false] else z) w) := by
  have hu := fun u v => h.uniq (k := key) (u := u) (v := v)
  obtain ⟨⟨es, clock, hb, rfl, -⟩, hk, _⟩ := h
  have hks : ∀ e ∈ es.toList, ∃ l, keyOf P kt e.key = some l := fun e he => hk (e.key, e.val) (List.mem_map.2 ⟨e, he, rfl⟩)
  rcases K.find w hkey es.toList hks with ⟨h1, h2⟩ | ⟨j, e0, h1, h2, h3⟩
  · refine ⟨fun v hv => ?_, fun _ => by simp [Instr.lookup, run_underlying ht, MapKept.run_getObj_map hb, K.check w _ hkey, h1, hz, Result.andThen]⟩
    obtain ⟨e, he, e2⟩ := List.mem_map.1 hv
    exact absurd (Prod.mk.inj e2).1 (h2 e he)
  · have hm0 : e0 ∈ es.toList := List.mem_of_getElem? h2
    have hm : (key, e0.val) ∈ es.toList.map (fun e => (e.key, e.val)) := List.mem_map.2 ⟨e0, hm0, by rw [h3]⟩
    refine ⟨fun v hv => ?_, fun hn => absurd rfl (hn _ hm)⟩
    rw [hu v e0.val hv hm]
    simp [Instr.lookup, run_underlying ht, MapKept.run_getObj_map hb, K.check w _ hkey, h1, Result.andThen]
theorem setB {w : World} {b : Nat} {es : Array MapEntry} {clock : Nat} (hb : w.heap[b]? = some (.map es clock)) (es' : Array MapEntry) (clock' : Nat) : (setBlock w b (.map es' clock')).heap[b]? = some (.map es' clock') ∧ But (· = b) w (setBlock w b (.map es' clock')) := by
  have hlt := (Array.getElem?_eq_some_iff.1 hb).1
  exact ⟨by simp [setBlock, hlt], ⟨rfl, rfl, rfl, by simp [setBlock], fun k _ hk => by simp only [setBlock]; rw [Array.getElem?_setIfInBounds_ne (fun e => hk e.symm)]⟩⟩
/-- A key that was there has another element, all others stay; a new one is behind them. -/
theorem Mq.put (K : Keyed P kt) (ht : P.underlying t = some (.map kt et)) (h : Mq P kt w b M) {key v : Value} {l : Lit} (hkey : keyOf P kt key = some l) :
    ∃ w' M', (Instr.mapUpdate t (.map (some b)) key v).run P w = .ok () w' ∧ Mq P kt w' b M' ∧ But (· = b) w w' ∧ w'.heap.size = w.heap.size ∧ (key, v) ∈ M' ∧ ∀ k u, k ≠ key → ((k, u) ∈ M' ↔ (k, u) ∈ M) := by
  obtain ⟨⟨es, clock, hb, rfl, hbo, hnd⟩, hk, hap⟩ := h
  have hks : ∀ e ∈ es.toList, ∃ l, keyOf P kt e.key = some l := fun e he => hk (e.key, e.val) (List.mem_map.2 ⟨e, he, rfl⟩)
  have hset := setB hb
  have hsz : ∀ o, (setBlock w b o).heap.size = w.heap.size := fun o => by simp [setBlock]
  rcases K.find w hkey es.toList hks with ⟨h1, h2⟩ | ⟨j, e0, h1, h2, h3⟩
  · refine ⟨setBlock w b (.map (es.push ⟨key, v, clock⟩) (clock + 1)), es.toList.map (fun e => (e.key, e.val)) ++ [(key, v)], ?_, ⟨⟨_, _, (hset _ _).1, by simp, ?_, ?_⟩, ?_, ?_⟩, (hset _ _).2, hsz _, by simp, fun k u hne => ?_⟩
    · simp [Instr.mapUpdate, run_underlying ht, MapKept.run_getObj_map hb, K.check w false hkey, h1, MapKept.run_setObj_map _ hb, Result.andThen, setBlock]
    · intro x hx
      rw [Array.toList_push] at hx
      rcases List.mem_append.1 hx with hx | hx
      · have := hbo x hx; omega
      · rw [show x = ⟨key, v, clock⟩ by simpa using hx]; exact Nat.lt_succ_self _
    · rw [Array.toList_push, List.map_append, List.nodup_append]
      refine ⟨hnd, by simp, fun a ha c hc => ?_⟩
      obtain ⟨x, hx, rfl⟩ := List.mem_map.1 ha
      have h5 := hbo x hx
      rw [show c = clock by simpa using hc]
      omega
    · intro p hp
      rcases List.mem_append.1 hp with hp | hp
      · exact hk p hp
      · obtain rfl : p = (key, v) := by simpa using hp
        exact ⟨l, hkey⟩
    · refine List.pairwise_append.2 ⟨hap, List.pairwise_singleton _ _, fun p hp q hq => ?_⟩
      obtain rfl : q = (key, v) := by simpa using hq
      obtain ⟨e, he, rfl⟩ := List.mem_map.1 hp
      exact h2 e he
    · constructor
      · intro h
        rcases List.mem_append.1 h with h | h
        · exact h
        · simp at h; exact absurd h.1 hne
      · exact fun h => List.mem_append_left _ h
  · have hlt2 : j < es.size := by
      have := (List.getElem?_eq_some_iff.1 h2).1
      simpa using this
    have hej : es[j]? = some e0 := by simpa using h2
    have hst := K.stays w hkey
    have hg : es[j] = e0 := by rw [Array.getElem?_eq_getElem hlt2] at hej; exact Option.some.inj hej
    have hmod : (es.modify j fun e => { e with key := key, val := v }).toList = es.toList.set j { e0 with key := key, val := v } := by
      apply List.ext_getElem?
      intro i
      rw [← Array.getElem?_toList.symm, Array.getElem?_modify, List.getElem?_set]
      by_cases hij : j = i
      · subst hij; simp [hlt2, hg]
      · simp [hij]
    have hmap : (es.toList.set j { e0 with key := key, val := v }).map (fun e => (e.key, e.val)) = (es.toList.map (fun e => (e.key, e.val))).set j (key, v) := by rw [List.map_set]
    have hborn : (es.toList.set j { e0 with key := key, val := v }).map (·.born) = es.toList.map (·.born) := by
      rw [List.map_set]
      apply List.ext_getElem?
      intro i
      rw [List.getElem?_set]
      by_cases hij : j = i
      · subst hij; simp [hlt2, hg]
      · simp [hij]
    have hkeys : ((es.toList.map (fun e => (e.key, e.val))).set j (key, v)).map Prod.fst = (es.toList.map (fun e => (e.key, e.val))).map Prod.fst := by
      rw [List.map_set]
      apply List.ext_getElem?
      intro i
      rw [List.getElem?_set]
      by_cases hij : j = i
      · subst hij
        simp [h3, hlt2, hg]
      · simp [hij]
    refine ⟨setBlock w b (.map (es.modify j fun e => { e with key := key, val := v }) clock), (es.toList.map (fun e => (e.key, e.val))).set j (key, v), ?_, ⟨⟨_, _, (hset _ _).1, by rw [hmod, hmap], ?_, by rw [hmod, hborn]; exact hnd⟩, ?_, ?_⟩, (hset _ _).2, hsz _, ?_, fun k u hne => ?_⟩
    · simp [Instr.mapUpdate, run_underlying ht, MapKept.run_getObj_map hb, K.check w false hkey, h1, hej, h3, hst, MapKept.run_setObj_map _ hb, Result.andThen, setBlock]
    · intro x hx
      rw [hmod] at hx
      have h5 : x.born ∈ es.toList.map (·.born) := by rw [← hborn]; exact List.mem_map.2 ⟨x, hx, rfl⟩
      obtain ⟨y, hy, e5⟩ := List.mem_map.1 h5
      rw [← e5]; exact hbo y hy
    · intro p hp
      rcases List.mem_or_eq_of_mem_set hp with hp | rfl
      · exact hk p hp
      · exact ⟨l, hkey⟩
    · have : ((es.toList.map (fun e => (e.key, e.val))).map Prod.fst).Pairwise (· ≠ ·) := List.pairwise_map.2 hap
      rw [← hkeys] at this
      exact List.pairwise_map.1 this
    · exact List.mem_iff_getElem?.2 ⟨j, by rw [List.getElem?_set]; simp [hlt2]⟩
    · constructor
      · intro h
        rcases List.mem_or_eq_of_mem_set h with h | h
        · exact h
        · exact absurd (Prod.mk.inj h).1 hne
      · intro h
        obtain ⟨i, hi⟩ := List.mem_iff_getElem?.1 h
        refine List.mem_iff_getElem?.2 ⟨i, ?_⟩
        rw [List.getElem?_set]
        by_cases hij : j = i
        · subst hij
          simp [hej, h3] at hi
          exact absurd hi.1.symm hne
        · simpa [hij] using hi
/-- A key is taken out. -/
theorem Mq.del (K : Keyed P kt) (ht : P.underlying t = some (.map kt et)) (h : Mq P kt w b M) {key : Value} {l : Lit} (hkey : keyOf P kt key = some l) (ty : TypeId) :
    ∃ w' M', (Builtin.delete_ #[t, kt] ty #[.map (some b), key]).run P w = .ok (.tuple #[]) w' ∧ Mq P kt w' b M' ∧ But (· = b) w w' ∧ w'.heap.size = w.heap.size ∧ ∀ k u, (k, u) ∈ M' ↔ (k, u) ∈ M ∧ k ≠ key := by
  have hap0 := h.apart
  have hkk := h.key
  obtain ⟨⟨es, clock, hb, rfl, hbo, hnd⟩, hk, hap⟩ := h
  have hks : ∀ e ∈ es.toList, ∃ l, keyOf P kt e.key = some l := fun e he => hk (e.key, e.val) (List.mem_map.2 ⟨e, he, rfl⟩)
  have hset := setB hb
  have hsz : ∀ o, (setBlock w b o).heap.size = w.heap.size := fun o => by simp [setBlock]
  rcases K.find w hkey es.toList hks with ⟨h1, h2⟩ | ⟨j, e0, h1, h2, h3⟩
  · refine ⟨setBlock w b (.map es clock), _, ?_, ⟨⟨es, clock, (hset _ _).1, rfl, hbo, hnd⟩, hk, hap⟩, (hset _ _).2, hsz _, fun k u => ⟨fun hm => ⟨hm, ?_⟩, fun hm => hm.1⟩⟩
    · simp [Builtin.delete_, run_underlying ht, MapKept.run_getObj_map hb, K.check w _ hkey, h1, MapKept.run_setObj_map _ hb, Result.andThen, setBlock]
    · obtain ⟨e, he, e2⟩ := List.mem_map.1 hm
      rw [← (Prod.mk.inj e2).1]; exact h2 e he
  · have hjs : j < es.size := by
      have := (List.getElem?_eq_some_iff.1 h2).1
      simpa using this
    have hsub : (es.eraseIdxIfInBounds j).toList = es.toList.eraseIdx j := by
      unfold Array.eraseIdxIfInBounds
      rw [dif_pos hjs]
      simp
    have hsl : (es.toList.eraseIdx j).Sublist es.toList := List.eraseIdx_sublist _ _
    refine ⟨setBlock w b (.map (es.eraseIdxIfInBounds j) clock), (es.toList.eraseIdx j).map (fun e => (e.key, e.val)), ?_, ⟨⟨_, _, (hset _ _).1, by rw [hsub], ?_, ?_⟩, ?_, ?_⟩, (hset _ _).2, hsz _, fun k u => ?_⟩
    · simp [Builtin.delete_, run_underlying ht, MapKept.run_getObj_map hb, K.check w _ hkey, h1, MapKept.run_setObj_map _ hb, Result.andThen, setBlock]
    · intro x hx; rw [hsub] at hx; exact hbo x (hsl.subset hx)
    · rw [hsub]; exact hnd.sublist (hsl.map _)
    · intro p hp; exact hk p ((hsl.map _).subset hp)
    · exact hap.sublist (hsl.map _)
    · have hap' := hap0
      constructor
      · intro hm
        have h4 := (hsl.map (fun e : MapEntry => (e.key, e.val))).subset hm
        refine ⟨h4, fun e4 => ?_⟩
        obtain ⟨e, he, e2⟩ := List.mem_map.1 hm
        rw [List.mem_eraseIdx_iff_getElem?] at he
        obtain ⟨i, hne, hi⟩ := he
        have h5 : (es.toList.map (fun e => (e.key, e.val)))[i]? = some (e.key, e.val) := by simp only [List.getElem?_map, hi, Option.map_some]
        have h6 : (es.toList.map (fun e => (e.key, e.val)))[j]? = some (e0.key, e0.val) := by simp only [List.getElem?_map, h2, Option.map_some]
        obtain ⟨h7, h7'⟩ := List.getElem?_eq_some_iff.1 h5
        obtain ⟨h8, h8'⟩ := List.getElem?_eq_some_iff.1 h6
        have hek : e.key = e0.key := by rw [h3, ← e4]; exact (Prod.mk.inj e2).1
        rcases Nat.lt_or_ge i j with hij | hij
        · have := List.pairwise_iff_getElem.1 hap i j h7 h8 hij
          rw [h7', h8'] at this
          exact this hek
        · have := List.pairwise_iff_getElem.1 hap j i h8 h7 (by omega)
          rw [h7', h8'] at this
          exact this hek.symm
      · rintro ⟨hm, hne⟩
        obtain ⟨e, he, e2⟩ := List.mem_map.1 hm
        refine List.mem_map.2 ⟨e, ?_, e2⟩
        rw [List.mem_eraseIdx_iff_getElem?]
        obtain ⟨i, hi⟩ := List.getElem?_of_mem he
        refine ⟨i, fun e1 => hne ?_, hi⟩
        rw [e1, h2] at hi
        cases hi
        rw [← h3]; exact (Prod.mk.inj e2).1.symm
/-- All is taken out. -/
theorem Mq.clear {d : TypeDesc} (ht : P.underlying t = some d) (h : Mq P kt w b M) (ty : TypeId) :
    ∃ w', (Builtin.clear_ #[t] ty #[.map (some b)]).run P w = .ok (.tuple #[]) w' ∧ Mq P kt w' b [] ∧ But (· = b) w w' ∧ w'.heap.size = w.heap.size := by
  obtain ⟨⟨es, clock, hb, rfl, hbo, hnd⟩, hk, hap⟩ := h
  have hset := setB hb
  refine ⟨setBlock w b (.map #[] clock), ?_, ⟨⟨_, _, (hset _ _).1, rfl, fun x hx => absurd hx (by simp), by simp⟩, fun p hp => absurd hp List.not_mem_nil, .nil⟩, (hset _ _).2, by simp [setBlock]⟩
  simp [Builtin.clear_, run_underlying ht, MapKept.run_getObj_map hb, MapKept.run_setObj_map _ hb, Result.andThen, setBlock]
/-- An iterator in block r over the map in block b: these pairs are left. -/
structure Rg (w : World) (r b : Nat) (M L : List (Value × Value)) : Prop where
  ex : ∃ es clock seen c0, w.heap[r]? = some (.mapIter (some b) clock seen c0) ∧ clock ≤ c0 ∧ w.heap[b]? = some (.map es clock) ∧ es.toList.map (fun e => (e.key, e.val)) = M ∧ (∀ x ∈ es.toList, x.born < clock) ∧ (es.toList.map (·.born)).Nodup ∧ (leftOf es seen).toList.map (fun e => (e.key, e.val)) = L
theorem Rg.ne (h : Rg w r b M L) : r ≠ b := by
  obtain ⟨es, clock, seen, c0, h1, _, h2, _⟩ := h.ex
  intro e; rw [e, h2] at h1; cases h1
theorem Rg.lt (h : Rg w r b M L) : r < w.heap.size ∧ b < w.heap.size := by
  obtain ⟨es, clock, seen, c0, h1, _, h2, _⟩ := h.ex
  exact ⟨(Array.getElem?_eq_some_iff.1 h1).1, (Array.getElem?_eq_some_iff.1 h2).1⟩
theorem Rg.but {R : Nat → Prop} (h : Rg w r b M L) (k : But R w w') (h1 : ¬ R r) (h2 : ¬ R b) : Rg w' r b M L := by
  have hl := h.lt
  obtain ⟨es, clock, seen, c0, h3, h4, h5, h6⟩ := h.ex
  exact ⟨es, clock, seen, c0, (k.block r hl.1 h1).trans h3, h4, (k.block b hl.2 h2).trans h5, h6⟩
theorem Mq.range {et : TypeId} (ht : P.underlying t = some (.map kt et)) (h : Mq P kt w b M) : ∃ w', (Instr.range t (.map (some b))).run P w = .ok (.pointer (some ⟨w.heap.size, 0, none⟩)) w' ∧ But (fun _ => False) w w' ∧ w'.heap.size = w.heap.size + 1 ∧ Rg w' w.heap.size b M M := by
  have hl := h.lt
  obtain ⟨⟨es, clock, hb, rfl, hbo, hnd⟩, hk, hap⟩ := h
  refine ⟨w.alloc (.mapIter (some b) clock #[] clock), run_range_map w t kt et b es clock ht hb, (But.refl _ w).alloc _, by simp, es, clock, #[], clock, heap_alloc_new _ _, Nat.le_refl _, by rw [heap_alloc_old w _ hl, hb], rfl, hbo, hnd, ?_⟩
  have : leftOf es #[] = es := by
    unfold leftOf
    exact Array.filter_eq_self.2 (fun x hx => by simp)
  rw [this]
theorem perm_filter {α : Type} (f : α → Nat) (e : α) : ∀ (l : List α), (l.map f).Nodup → e ∈ l → l.Perm (e :: l.filter fun x => !(f x == f e))
  | [], _, h => absurd h List.not_mem_nil
  | x :: l, hn, h => by
    have hn' : f x ∉ l.map f ∧ (l.map f).Nodup := List.nodup_cons.1 hn
    rcases List.mem_cons.1 h with rfl | h
    · have : (l.filter fun y => !(f y == f e)) = l := List.filter_eq_self.2 (fun y hy => by
        have : f y ≠ f e := fun h2 => hn'.1 (by rw [← h2]; exact List.mem_map.2 ⟨y, hy, rfl⟩)
        simpa using this)
      simp [this]
    · have hx : (!(f x == f e)) = true := by
        have : f x ≠ f e := fun h2 => hn'.1 (by rw [h2]; exact List.mem_map.2 ⟨e, h, rfl⟩)
        simpa using this
      rw [List.filter_cons, if_pos hx]
      exact ((perm_filter f e l hn'.2 h).cons x).trans (List.Perm.swap _ _ _)
/-- The next one, whichever it is. -/
theorem Rg.next (h : Rg w r b M L) (ty : TypeId) :
    (L = [] ∧ (Instr.next (.pointer (some ⟨r, 0, none⟩)) false ty).run P w = .ok (.tuple #[.bool false]) w) ∨
    ∃ p L' w', p ∈ M ∧ L.Perm (p :: L') ∧ (Instr.next (.pointer (some ⟨r, 0, none⟩)) false ty).run P w = .ok (.tuple #[.bool true, p.1, p.2]) w' ∧ But (· = r) w w' ∧ w'.heap.size = w.heap.size ∧ Rg w' r b M L' ∧ (Instr.entry (.pointer (some ⟨r, 0, none⟩))).run P w' = .ok (.tuple #[p.1, p.2]) w' := by
  have hne := h.ne
  have hl := h.lt
  obtain ⟨es, clock, seen, c0, h1, h2, h3, rfl, h4, h5, rfl⟩ := h.ex
  rcases run_next_at w ty r b clock c0 seen es clock h1 h3 h4 h2 with ⟨e0, hr⟩ | ⟨e, he, w1, hw1, hr⟩
  · have : leftOf es seen = #[] := Array.eq_empty_of_size_eq_zero e0
    exact .inl ⟨by rw [this]; rfl, hr⟩
  · have hm := mem_left he
    have hq : w1.heap = w.heap ∧ But (fun _ => False) w w1 := by
      rcases hw1 with rfl | rfl
      · exact ⟨rfl, But.refl _ _⟩
      · exact ⟨rfl, (But.refl _ w).drew⟩
    have hr1 : (setBlock w1 r (.mapIter (some b) clock (seen.push e.born) clock)).heap[r]? = some (.mapIter (some b) clock (seen.push e.born) clock) := by
      simp [setBlock, hq.1, hl.1]
    have hb1 : (setBlock w1 r (.mapIter (some b) clock (seen.push e.born) clock)).heap[b]? = some (.map es clock) := by
      simp only [setBlock]
      rw [Array.getElem?_setIfInBounds_ne hne, hq.1]; exact h3
    refine .inr ⟨(e.key, e.val), (leftOf es (seen.push e.born)).toList.map (fun e => (e.key, e.val)), _, List.mem_map.2 ⟨e, hm.1, rfl⟩, ?_, hr, ⟨by simp [setBlock]; exact hq.2.os, by simp [setBlock]; exact hq.2.tape, by simp [setBlock]; exact hq.2.output, by simp [setBlock, hq.1], fun k _ hk => by
      simp only [setBlock]
      rw [Array.getElem?_setIfInBounds_ne (fun e => hk e.symm), hq.1]⟩, by simp [setBlock, hq.1], ⟨es, clock, seen.push e.born, clock, hr1, Nat.le_refl _, hb1, rfl, h4, h5, rfl⟩, run_entry_at _ r b clock seen es clock e hr1 hb1 hm.1 h5⟩
    have hn2 : ((leftOf es seen).toList.map (·.born)).Nodup := by
      unfold leftOf
      rw [Array.toList_filter]
      exact h5.sublist (List.filter_sublist.map _)
    have h6 := perm_filter (fun e : MapEntry => e.born) e (leftOf es seen).toList hn2 he
    have h7 : ((leftOf es seen).toList.filter fun x => !(x.born == e.born)) = (leftOf es (seen.push e.born)).toList := by
      unfold leftOf
      rw [Array.toList_filter, Array.toList_filter, List.filter_filter]
      apply List.filter_congr
      intro x hx
      rw [contains_push]
      cases seen.contains x.born <;> simp
    rw [h7] at h6
    exact h6.map _
end
end Go.Proofs.Ytlfppgdaoijklaa
