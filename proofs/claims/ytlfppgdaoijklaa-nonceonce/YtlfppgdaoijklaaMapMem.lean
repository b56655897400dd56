/- Maps in memory whose keys are arrays or structs: what a look-up tells, what an update leaves. -/
import Derived.Test.YtlfppgdaoijklaaBlocks
import Derived.Maps.Keyed
import Derived.MapViews
namespace Go.Proofs.Ytlfppgdaoijklaa
open Go.RowKit Go.ChangeMaps Go.WideMaps Go.MapKept
section
variable {P : Program} {w : World} {b : Nat} {M : List (Value × Value)} {t kt et : TypeId}

/-- A map's block: these keys, each with its element. -/
structure Mp (P : Program) (kt : TypeId) (w : World) (b : Nat) (M : List (Value × Value)) : Prop where
  blk : ∃ es clock, w.heap[b]? = some (.map es clock) ∧ es.toList.map (fun e => (e.key, e.val)) = M
  key : ∀ p ∈ M, ∃ l, keyOf P kt p.1 = some l
  apart : M.Pairwise (fun p q => p.1 ≠ q.1)
theorem Mp.lt (h : Mp P kt w b M) : b < w.heap.size := by
  obtain ⟨⟨es, c, h, _⟩, _⟩ := h
  exact (Array.getElem?_eq_some_iff.1 h).1
theorem Mp.but {R : Nat → Prop} {w' : World} (h : Mp P kt w b M) (k : But R w w') (hr : ¬ R b) : Mp P kt w' b M := by
  have hl := h.lt
  obtain ⟨⟨es, c, h1, h2⟩, h3, h4⟩ := h
  exact ⟨⟨es, c, (k.block b hl hr).trans h1, h2⟩, h3, h4⟩
theorem Mp.new (g : Nat) (h : w.heap.size = g) : Mp P kt (w.alloc (.map #[] 0)) g [] := by
  subst h
  exact ⟨⟨#[], 0, heap_alloc_new _ _, rfl⟩, fun p hp => absurd hp List.not_mem_nil, .nil⟩
theorem Mp.uniq (h : Mp P kt w b M) {k u v : Value} (hu : (k, u) ∈ M) (hv : (k, v) ∈ M) : u = v := by
  have : ∀ {L : List (Value × Value)}, L.Pairwise (fun p q => p.1 ≠ q.1) → (k, u) ∈ L → (k, v) ∈ L → u = v := by
    intro L hp
    induction hp with
    | nil => intro h; cases h
    | cons hx _ ih =>
      intro h1 h2
      rcases List.mem_cons.1 h1 with e1 | g1
      · rcases List.mem_cons.1 h2 with e2 | g2
        · exact (Prod.mk.inj (e1.trans e2.symm)).2
        · exact (hx _ g2 (by rw [← e1])).elim
      · rcases List.mem_cons.1 h2 with e2 | g2
        · exact (hx _ g1 (by rw [← e2])).elim
        · exact ih g1 g2
  exact this h.apart hu hv
theorem Mp.look (K : KeyLaw P kt) (ht : P.underlying t = some (.map kt et)) {z : Value} (hz : (zeroValue et).run P w = .ok z w) (h : Mp P kt w b M) {key : Value} {l : Lit} (hkey : keyOf P kt key = some l) (c : Bool) :
    (∀ v, (key, v) ∈ M → (Instr.lookup t (.map (some b)) key c).run P w = .ok (if c then .tuple #[v, .bool true] else v) w) ∧ ((∀ p ∈ M, p.1 ≠ key) → (Instr.lookup t (.map (some b)) key c).run P w = .ok (if c then .tuple #[z, .bool false] else z) w) := by
  have hu := fun u v => h.uniq (k := key) (u := u) (v := v)
  obtain ⟨⟨es, clock, hb, rfl⟩, hk, _⟩ := h
  have hks : ∀ e ∈ es.toList, ∃ l, keyOf P kt e.key = some l := fun e he => hk (e.key, e.val) (List.mem_map.2 ⟨e, he, rfl⟩)
  rcases K.find w hkey es.toList hks with ⟨h1, h2⟩ | ⟨j, e0, h1, h2, h3⟩
  · refine ⟨fun v hv => ?_, fun _ => by simp [Instr.lookup, run_underlying ht, MapKept.run_getObj_map hb, K.check w _ hkey, h1, hz, Result.andThen]⟩
    obtain ⟨e, he, e2⟩ := List.mem_map.1 hv
    exact absurd (Prod.mk.inj e2).1 (h2 e he)
  · have hm0 : e0 ∈ es.toList := List.mem_of_getElem? h2
    have hm : (key, e0.val) ∈ es.toList.map (fun e => (e.key, e.val)) := List.mem_map.2 ⟨e0, hm0, by rw [h3]⟩
    refine ⟨fun v hv => ?_, fun hn => absurd rfl (hn _ hm)⟩
    rw [hu v e0.val hv hm]
    simp [Instr.lookup, run_underlying ht, MapKept.run_getObj_map hb, K.check w _ hkey, h1, Result.andThen]
/-- In no map nothing is found. -/
theorem look_none (K : KeyLaw P kt) (ht : P.underlying t = some (.map kt et)) {z : Value} (hz : (zeroValue et).run P w = .ok z w) {key : Value} {l : Lit} (hkey : keyOf P kt key = some l) (c : Bool) :
    (Instr.lookup t (.map none) key c).run P w = .ok (if c then .tuple #[z, .bool false] else z) w := by
  rcases K.find w hkey [] (fun e he => absurd he List.not_mem_nil) with ⟨h1, h2⟩ | ⟨j, e0, h1, h2, h3⟩
  · simp [Instr.lookup, run_underlying ht, K.check w _ hkey, h1, hz, Result.andThen]
  · simp at h2
/-- A key that was there has another element, all others stay; a new one is behind them. -/
theorem Mp.put (K : KeyLaw P kt) (ht : P.underlying t = some (.map kt et)) (h : Mp P kt w b M) {key v : Value} {l : Lit} (hkey : keyOf P kt key = some l) :
    ∃ w' M', (Instr.mapUpdate t (.map (some b)) key v).run P w = .ok () w' ∧ Mp P kt w' b M' ∧ But (· = b) w w' ∧ (key, v) ∈ M' ∧ ∀ k u, k ≠ key → ((k, u) ∈ M' ↔ (k, u) ∈ M) := by
  obtain ⟨⟨es, clock, hb, rfl⟩, hk, hap⟩ := h
  have hlt := (Array.getElem?_eq_some_iff.1 hb).1
  have hks : ∀ e ∈ es.toList, ∃ l, keyOf P kt e.key = some l := fun e he => hk (e.key, e.val) (List.mem_map.2 ⟨e, he, rfl⟩)
  have hset : ∀ es' clock', (setBlock w b (.map es' clock')).heap[b]? = some (.map es' clock') ∧ But (· = b) w (setBlock w b (.map es' clock')) := fun es' clock' =>
    ⟨by simp [setBlock, hlt], ⟨rfl, rfl, rfl, by simp [setBlock], fun k _ hk => by simp only [setBlock]; rw [Array.getElem?_setIfInBounds_ne (fun e => hk e.symm)]⟩⟩
  rcases K.find w hkey es.toList hks with ⟨h1, h2⟩ | ⟨j, e0, h1, h2, h3⟩
  · refine ⟨setBlock w b (.map (es.push ⟨key, v, clock⟩) (clock + 1)), es.toList.map (fun e => (e.key, e.val)) ++ [(key, v)], ?_, ⟨⟨_, _, (hset _ _).1, by simp⟩, ?_, ?_⟩, (hset _ _).2, by simp, fun k u hne => ?_⟩
    · simp [Instr.mapUpdate, run_underlying ht, MapKept.run_getObj_map hb, K.check w false hkey, h1, MapKept.run_setObj_map _ hb, Result.andThen, setBlock]
    · intro p hp
      rcases List.mem_append.1 hp with hp | hp
      · exact hk p hp
      · obtain rfl : p = (key, v) := by simpa using hp
        exact ⟨l, hkey⟩
    · refine List.pairwise_append.2 ⟨hap, List.pairwise_singleton _ _, fun p hp q hq => ?_⟩
      obtain rfl : q = (key, v) := by simpa using hq
      obtain ⟨e, he, rfl⟩ := List.mem_map.1 hp
      exact h2 e he
    · constructor
      · intro h
        rcases List.mem_append.1 h with h | h
        · exact h
        · simp at h; exact absurd h.1 hne
      · exact fun h => List.mem_append_left _ h
  · have hlt2 : j < es.size := by
      have := (List.getElem?_eq_some_iff.1 h2).1
      simpa using this
    have hej : es[j]? = some e0 := by simpa using h2
    have hst := K.stays w hkey
    have hg : es[j] = e0 := by rw [Array.getElem?_eq_getElem hlt2] at hej; exact Option.some.inj hej
    have hmod : (es.modify j fun e => { e with key := key, val := v }).toList = es.toList.set j { e0 with key := key, val := v } := by
      apply List.ext_getElem?
      intro i
      rw [← Array.getElem?_toList.symm, Array.getElem?_modify, List.getElem?_set]
      by_cases hij : j = i
      · subst hij; simp [hlt2, hg]
      · simp [hij]
    have hmap : (es.toList.set j { e0 with key := key, val := v }).map (fun e => (e.key, e.val)) = (es.toList.map (fun e => (e.key, e.val))).set j (key, v) := by rw [List.map_set]
    have hkeys : ((es.toList.map (fun e => (e.key, e.val))).set j (key, v)).map Prod.fst = (es.toList.map (fun e => (e.key, e.val))).map Prod.fst := by
      rw [List.map_set]
      apply List.ext_getElem?
      intro i
      rw [List.getElem?_set]
      by_cases hij : j = i
      · subst hij
        simp [h3, hlt2, hg]
      · simp [hij]
    refine ⟨setBlock w b (.map (es.modify j fun e => { e with key := key, val := v }) clock), (es.toList.map (fun e => (e.key, e.val))).set j (key, v), ?_, ⟨⟨_, _, (hset _ _).1, by rw [hmod, hmap]⟩, ?_, ?_⟩, (hset _ _).2, ?_, fun k u hne => ?_⟩
    · simp [Instr.mapUpdate, run_underlying ht, MapKept.run_getObj_map hb, K.check w false hkey, h1, hej, h3, hst, MapKept.run_setObj_map _ hb, Result.andThen, setBlock]
    · intro p hp
      rcases List.mem_or_eq_of_mem_set hp with hp | rfl
      · exact hk p hp
      · exact ⟨l, hkey⟩
    · have : ((es.toList.map (fun e => (e.key, e.val))).map Prod.fst).Pairwise (· ≠ ·) := List.pairwise_map.2 hap
      rw [← hkeys] at this
      exact List.pairwise_map.1 this
    · exact List.mem_iff_getElem?.2 ⟨j, by rw [List.getElem?_set]; simp [hlt2]⟩
    · constructor
      · intro h
        rcases List.mem_or_eq_of_mem_set h with h | h
        · exact h
        · exact absurd (Prod.mk.inj h).1 hne
      · intro h
        obtain ⟨i, hi⟩ := List.mem_iff_getElem?.1 h
        refine List.mem_iff_getElem?.2 ⟨i, ?_⟩
        rw [List.getElem?_set]
        by_cases hij : j = i
        · subst hij
          simp [hej, h3] at hi
          exact absurd hi.1.symm hne
        · simpa [hij] using hi
end
/-- Keys that are bytes. -/
theorem mapM_some {α β : Type} {f : α → Option β} : ∀ {l : List α}, (∀ a ∈ l, ∃ b, f a = some b) → ∃ r, l.mapM f = some r
  | [], _ => ⟨[], rfl⟩
  | a :: l, h => by
    obtain ⟨b, hb⟩ := h a List.mem_cons_self
    obtain ⟨r, hr⟩ := mapM_some (l := l) (fun x hx => h x (List.mem_cons_of_mem _ hx))
    exact ⟨b :: r, by simp [List.mapM_cons, hb, hr]⟩
theorem lits_u8s {t : TypeId} {n d : Nat} (ht : Try.prog.underlying t = some (.array n 5)) (hc : Try.prog.cellsOf t = n) (D : List Nat) (hl : D.length = n) (hb : ∀ z ∈ D, z < 256) : ∃ ls, Try.prog.keyLits (d + 2) t (u8s D) = some ls := by
  have h1 : Try.prog.cellsOf 5 = 1 := by kernel_rfl
  obtain ⟨r, hr⟩ := mapM_some (l := List.range n) (f := fun i => Try.prog.keyLits (d + 1) 5 (((u8s D).drop (i * 1)).take 1)) (by
    intro i hi
    have hi' : i < D.length := by rw [hl]; simpa using hi
    refine ⟨[.int .u8 (D.getD i 0 : Nat)], ?_⟩
    have e : ((u8s D).drop (i * 1)).take 1 = [.int .u8 (D.getD i 0 : Nat)] := by
      rw [Nat.mul_one]
      have hg : (u8s D)[i]? = some (.int .u8 (D.getD i 0 : Nat)) := u8s_get D i hi'
      have hlt : i < (u8s D).length := by simpa [u8s] using hi'
      rw [List.drop_eq_getElem_cons hlt]
      simp only [List.take_succ_cons, List.take_zero]
      rw [List.getElem?_eq_getElem hlt] at hg
      rw [Option.some.inj hg]
    rw [e]
    have hw : D.getD i 0 < 256 := hb _ (getD_mem D i hi')
    have hwf : (Lit.int .u8 (D.getD i 0 : Nat)).wf = true := by
      have e1 : IntKind.u8.min = 0 := rfl
      have e2 : IntKind.u8.max = 255 := rfl
      simp only [Lit.wf, e1, e2, Bool.and_eq_true, decide_eq_true_eq]
      omega
    simp only [Program.keyLits, Try.underlying5, hwf]
    simp)
  have hlen : (u8s D).length = n := by simpa [u8s] using hl
  refine ⟨r.flatten, ?_⟩
  unfold Program.keyLits
  simp only [ht, hc, hlen, h1, if_true]
  rw [hr]; rfl
theorem key_u8s {t : TypeId} {n : Nat} (ht : Try.prog.underlying t = some (.array n 5)) (hc : Try.prog.cellsOf t = n) (hk : Try.prog.keyType t = true) (hsz : 1 ≤ Try.prog.types.size) (D : List Nat) (hl : D.length = n) (hb : ∀ z ∈ D, z < 256) : ∃ l, keyOf Try.prog t (.agg (u8s D).toArray) = some l := by
  obtain ⟨m, hm⟩ : ∃ m, Try.prog.types.size = m + 1 := ⟨Try.prog.types.size - 1, by omega⟩
  obtain ⟨ls, h⟩ := lits_u8s (d := m) ht hc D hl hb
  have hf : Value.formed Try.prog t (.agg (u8s D).toArray) = true := by simp [Value.formed, ht, hc, u8s, hl]
  refine ⟨.string (keyBytes ls), ?_⟩
  simp only [keyOf, ht, hk, hf, Bool.and_self, if_true, hm, Value.cells]
  rw [show m + 1 + 1 = m + 2 by rfl, h]; rfl
end Go.Proofs.Ytlfppgdaoijklaa
