/- A map in memory that holds what is on a list: look-ups, updates, deletes, ranges. -/
import Derived.Test.YtehajgfjdmhdpaaRanges
namespace Go.Proofs.Ytehajgfjdmhdpaa
open Go.RowKit Go.Maps

/-- The map in block b has, for each x of the list, the key kv x with the element vv x; nothing else. -/
def MapOf {α : Type} (kt : TypeId) (w : World) (b : Nat) (kv vv : α → Value) (l : List α) : Prop :=
  ∃ M, Mq Try.prog kt w b M ∧ (∀ p ∈ M, ∃ x ∈ l, p = (kv x, vv x)) ∧ ∀ x ∈ l, (kv x, vv x) ∈ M
section
variable {α : Type} {kt et t : TypeId} {w w' : World} {b : Nat} {kv vv vv' : α → Value} {l l' : List α} {R : Nat → Prop}
theorem MapOf.lt (h : MapOf kt w b kv vv l) : b < w.heap.size := by obtain ⟨M, h1, -⟩ := h; exact h1.lt
theorem MapOf.but (h : MapOf kt w b kv vv l) (k : But R w w') (hr : ¬ R b) : MapOf kt w' b kv vv l := by
  obtain ⟨M, h1, h2, h3⟩ := h
  exact ⟨M, h1.but k hr, h2, h3⟩
theorem MapOf.grow (h : MapOf kt w b kv vv l) (k : Grow w w') : MapOf kt w' b kv vv l := h.but k (fun h => h)
theorem MapOf.mem (h : MapOf kt w b kv vv l) (hm : ∀ x, x ∈ l ↔ x ∈ l') : MapOf kt w b kv vv l' := by
  obtain ⟨M, h1, h2, h3⟩ := h
  refine ⟨M, h1, fun p hp => ?_, fun x hx => h3 x ((hm x).2 hx)⟩
  obtain ⟨x, hx, e⟩ := h2 p hp
  exact ⟨x, (hm x).1 hx, e⟩
theorem MapOf.congr (h : MapOf kt w b kv vv l) (hv : ∀ x ∈ l, vv x = vv' x) : MapOf kt w b kv vv' l := by
  obtain ⟨M, h1, h2, h3⟩ := h
  refine ⟨M, h1, fun p hp => ?_, fun x hx => ?_⟩
  · obtain ⟨x, hx, e⟩ := h2 p hp
    exact ⟨x, hx, by rw [← hv x hx]; exact e⟩
  · rw [← hv x hx]; exact h3 x hx
theorem MapOf.new (g : Nat) (h : w.heap.size = g) (kv vv : α → Value) : MapOf kt (w.alloc (.map #[] 0)) g kv vv [] :=
  ⟨[], Mq.new g h, fun _ hp => absurd hp List.not_mem_nil, fun _ hx => absurd hx List.not_mem_nil⟩
theorem MapOf.look (K : Keyed Try.prog kt) (ht : Try.prog.underlying t = some (.map kt et)) {z : Value} (hz : ∀ w, (zeroValue et).run Try.prog w = .ok z w) (h : MapOf kt w b kv vv l) {key : Value} {lt : Lit} (hkey : keyOf Try.prog kt key = some lt) (c : Bool) :
    (∀ x ∈ l, kv x = key → (Instr.lookup t (.map (some b)) key c).run Try.prog w = .ok (if c then .tuple #[vv x, .bool true] else vv x) w) ∧ ((∀ x ∈ l, kv x ≠ key) → (Instr.lookup t (.map (some b)) key c).run Try.prog w = .ok (if c then .tuple #[z, .bool false] else z) w) := by
  obtain ⟨M, h1, h2, h3⟩ := h
  have hl := h1.look (t := t) (et := et) K ht (hz w) hkey c
  refine ⟨fun x hx e => ?_, fun hn => hl.2 (fun p hp e => ?_)⟩
  · refine hl.1 _ ?_
    rw [← e]; exact h3 x hx
  · obtain ⟨x, hx, e2⟩ := h2 p hp
    exact hn x hx (by rw [← e, e2])
theorem MapOf.put (K : Keyed Try.prog kt) (ht : Try.prog.underlying t = some (.map kt et)) (h : MapOf kt w b kv vv l) (x : α) {lt : Lit} (hkey : keyOf Try.prog kt (kv x) = some lt) (hx : ∀ y ∈ l, kv y ≠ kv x) :
    ∃ w', (Instr.mapUpdate t (.map (some b)) (kv x) (vv x)).run Try.prog w = .ok () w' ∧ MapOf kt w' b kv vv (l ++ [x]) ∧ But (· = b) w w' ∧ w'.heap.size = w.heap.size := by
  obtain ⟨M, h1, h2, h3⟩ := h
  obtain ⟨w', M', hr, hM, hb, hs, hin, hot⟩ := h1.put (t := t) (et := et) (v := vv x) K ht hkey
  refine ⟨w', hr, ⟨M', hM, fun p hp => ?_, fun y hy => ?_⟩, hb, hs⟩
  · by_cases hk : p.1 = kv x
    · have hpv : p.2 = vv x := hM.uniq (k := kv x) (by rw [← hk]; exact hp) hin
      exact ⟨x, List.mem_append_right _ List.mem_cons_self, by rw [← hk, ← hpv]⟩
    · obtain ⟨y, hy, e⟩ := h2 p ((hot p.1 p.2 hk).1 hp)
      exact ⟨y, List.mem_append_left _ hy, e⟩
  · rcases List.mem_append.1 hy with hy | hy
    · exact (hot _ _ (hx y hy)).2 (h3 y hy)
    · rw [show y = x by simpa using hy]; exact hin
/-- One is put, whether its key was there or not. -/
theorem MapOf.upd (K : Keyed Try.prog kt) (ht : Try.prog.underlying t = some (.map kt et)) (h : MapOf kt w b kv vv l) (x : α) {lt : Lit} (hkey : keyOf Try.prog kt (kv x) = some lt) (hl : ∀ y, y ∈ l' ↔ (y ∈ l ∧ kv y ≠ kv x) ∨ y = x) :
    ∃ w', (Instr.mapUpdate t (.map (some b)) (kv x) (vv x)).run Try.prog w = .ok () w' ∧ MapOf kt w' b kv vv l' ∧ But (· = b) w w' ∧ w'.heap.size = w.heap.size := by
  obtain ⟨M, h1, h2, h3⟩ := h
  obtain ⟨w', M', hr, hM, hb, hs, hin, hot⟩ := h1.put (t := t) (et := et) (v := vv x) K ht hkey
  refine ⟨w', hr, ⟨M', hM, fun p hp => ?_, fun y hy => ?_⟩, hb, hs⟩
  · by_cases hk : p.1 = kv x
    · have hpv : p.2 = vv x := hM.uniq (k := kv x) (by rw [← hk]; exact hp) hin
      exact ⟨x, (hl x).2 (.inr rfl), by rw [← hk, ← hpv]⟩
    · obtain ⟨y, hy, e⟩ := h2 p ((hot p.1 p.2 hk).1 hp)
      exact ⟨y, (hl y).2 (.inl ⟨hy, fun e2 => hk (by rw [e]; exact e2)⟩), e⟩
  · rcases (hl y).1 hy with ⟨hy, hk⟩ | rfl
    · exact (hot _ _ hk).2 (h3 y hy)
    · exact hin
theorem MapOf.clear {d : TypeDesc} (ht : Try.prog.underlying t = some d) (h : MapOf kt w b kv vv l) (hl : l' = []) (ty : TypeId) :
    ∃ w', (Builtin.clear_ #[t] ty #[.map (some b)]).run Try.prog w = .ok (.tuple #[]) w' ∧ MapOf kt w' b kv vv l' ∧ But (· = b) w w' ∧ w'.heap.size = w.heap.size := by
  obtain ⟨M, h1, h2, h3⟩ := h
  obtain ⟨w', hr, hM, hb, hs⟩ := h1.clear (t := t) ht ty
  exact ⟨w', hr, ⟨[], hM, fun _ hp => absurd hp List.not_mem_nil, fun y hy => by rw [hl] at hy; cases hy⟩, hb, hs⟩
theorem MapOf.del (K : Keyed Try.prog kt) (ht : Try.prog.underlying t = some (.map kt et)) (h : MapOf kt w b kv vv l) {key : Value} {lt : Lit} (hkey : keyOf Try.prog kt key = some lt) (hl : ∀ x, x ∈ l' ↔ x ∈ l ∧ kv x ≠ key) (ty : TypeId) :
    ∃ w', (Builtin.delete_ #[t, kt] ty #[.map (some b), key]).run Try.prog w = .ok (.tuple #[]) w' ∧ MapOf kt w' b kv vv l' ∧ But (· = b) w w' ∧ w'.heap.size = w.heap.size := by
  obtain ⟨M, h1, h2, h3⟩ := h
  obtain ⟨w', M', hr, hM, hb, hs, hot⟩ := h1.del (t := t) (et := et) K ht hkey ty
  refine ⟨w', hr, ⟨M', hM, fun p hp => ?_, fun y hy => ?_⟩, hb, hs⟩
  · obtain ⟨h6, h7⟩ := (hot p.1 p.2).1 hp
    obtain ⟨x, hx, e⟩ := h2 p h6
    exact ⟨x, (hl x).2 ⟨hx, fun e2 => h7 (by rw [e]; exact e2)⟩, e⟩
  · obtain ⟨h6, h7⟩ := (hl y).1 hy
    exact (hot _ _).2 ⟨h3 y h6, h7⟩
theorem nodup_len {β : Type} : ∀ {l m : List β}, l.Nodup → (∀ x ∈ l, x ∈ m) → l.length ≤ m.length := by
  intro l
  induction l with
  | nil => intro m _ _; exact Nat.zero_le _
  | cons x l ih =>
    intro m hn hm
    rw [List.nodup_cons] at hn
    have hx := hm x List.mem_cons_self
    obtain ⟨m1, m2, rfl⟩ := List.append_of_mem hx
    have := ih (m := m1 ++ m2) hn.2 (fun y hy => by
      have h1 := hm y (List.mem_cons_of_mem _ hy)
      rcases List.mem_append.1 h1 with h2 | h2
      · exact List.mem_append_left _ h2
      · rcases List.mem_cons.1 h2 with h3 | h3
        · exact absurd (by rw [← h3]; exact hy) hn.1
        · exact List.mem_append_right _ h3)
    rw [List.length_append] at this ⊢
    rw [List.length_cons, List.length_cons]
    omega
theorem MapOf.keys {M : List (Value × Value)} (h1 : Mq Try.prog kt w b M) : (M.map (·.1)).Nodup := List.pairwise_map.2 h1.apart
theorem MapOf.size {M : List (Value × Value)} (h1 : Mq Try.prog kt w b M) (h2 : ∀ p ∈ M, ∃ x ∈ l, p = (kv x, vv x)) (h3 : ∀ x ∈ l, (kv x, vv x) ∈ M) (hn : (l.map kv).Nodup) : M.length = l.length := by
  have a1 := nodup_len (m := l.map kv) (MapOf.keys h1) (fun x hx => by
    obtain ⟨p, hp, rfl⟩ := List.mem_map.1 hx
    obtain ⟨y, hy, e⟩ := h2 p hp
    exact List.mem_map.2 ⟨y, hy, by rw [e]⟩)
  have a2 := nodup_len (m := M.map (·.1)) hn (fun x hx => by
    obtain ⟨y, hy, rfl⟩ := List.mem_map.1 hx
    exact List.mem_map.2 ⟨_, h3 y hy, rfl⟩)
  rw [List.length_map, List.length_map] at a1 a2
  omega
theorem MapOf.len (ht : Try.prog.underlying t = some (.map kt et)) (h : MapOf kt w b kv vv l) (hn : (l.map kv).Nodup) (ty : TypeId) : (Builtin.len_ #[t] ty #[.map (some b)]).run Try.prog w = .ok (.int .i64 (l.length : Int)) w := by
  obtain ⟨M, h1, h2, h3⟩ := h
  rw [← MapOf.size h1 h2 h3 hn]
  exact h1.len ht ty
theorem nodup_map {β : Type} {f : α → β} {l : List α} (hf : ∀ x ∈ l, ∀ y ∈ l, f x = f y → x = y) (h : l.Nodup) : (l.map f).Nodup :=
  List.pairwise_map.2 (h.imp_of_mem (fun hx hy hne e => hne (hf _ hx _ hy e)))
/-- A map that is ranged over: these of the list are still to come. -/
structure Ranged {α : Type} (kt : TypeId) (w : World) (r b : Nat) (kv vv : α → Value) (l lf : List α) : Prop where
  ex : ∃ M L, Mq Try.prog kt w b M ∧ Rg w r b M L ∧ (∀ p ∈ M, ∃ x ∈ l, p = (kv x, vv x)) ∧ (∀ x ∈ l, (kv x, vv x) ∈ M) ∧ L.Perm (lf.map (fun x => (kv x, vv x)))
  sub : ∀ x ∈ lf, x ∈ l
theorem Ranged.map {r : Nat} {lf : List α} (h : Ranged kt w r b kv vv l lf) : MapOf kt w b kv vv l := by
  obtain ⟨M, L, h1, -, h2, h3, -⟩ := h.ex
  exact ⟨M, h1, h2, h3⟩
theorem Ranged.lt {r : Nat} {lf : List α} (h : Ranged kt w r b kv vv l lf) : r < w.heap.size ∧ b < w.heap.size ∧ r ≠ b := by
  obtain ⟨M, L, -, h1, -⟩ := h.ex
  exact ⟨h1.lt.1, h1.lt.2, h1.ne⟩
theorem Ranged.but {r : Nat} {lf : List α} (h : Ranged kt w r b kv vv l lf) (k : But R w w') (h1 : ¬ R r) (h2 : ¬ R b) : Ranged kt w' r b kv vv l lf := by
  obtain ⟨M, L, g1, g2, g3⟩ := h.ex
  exact ⟨⟨M, L, g1.but k h2, g2.but k h1 h2, g3⟩, h.sub⟩
theorem Ranged.grow {r : Nat} {lf : List α} (h : Ranged kt w r b kv vv l lf) (k : Grow w w') : Ranged kt w' r b kv vv l lf := h.but k (fun h => h) (fun h => h)
theorem Ranged.left {r : Nat} {lf : List α} (h : Ranged kt w r b kv vv l lf) : leftN w r b = lf.length := by
  obtain ⟨M, L, -, h1, -, -, h2⟩ := h.ex
  rw [h1.left, h2.length_eq, List.length_map]
theorem MapOf.range (ht : Try.prog.underlying t = some (.map kt et)) (h : MapOf kt w b kv vv l) (hn : (l.map kv).Nodup) : ∃ w', (Instr.range t (.map (some b))).run Try.prog w = .ok (.pointer (some ⟨w.heap.size, 0, none⟩)) w' ∧ Grow w w' ∧ w'.heap.size = w.heap.size + 1 ∧ Ranged kt w' w.heap.size b kv vv l l := by
  obtain ⟨M, h1, h2, h3⟩ := h
  obtain ⟨w', hr, hb, hs, hg⟩ := h1.range (t := t) (et := et) ht
  refine ⟨w', hr, hb, hs, ⟨M, M, h1.but hb (fun h => h), hg, h2, h3, ?_⟩, fun x hx => hx⟩
  refine (List.perm_ext_iff_of_nodup ?_ ?_).2 (fun p => ⟨fun hp => ?_, fun hp => ?_⟩)
  · exact h1.apart.imp (fun h e => h (by rw [e]))
  · have : ((l.map fun x => (kv x, vv x)).map (·.1)).Nodup := by rw [List.map_map]; exact hn
    exact (List.pairwise_map.1 this).imp (fun h e => h (by rw [e]))
  · obtain ⟨x, hx, e⟩ := h2 p hp
    exact List.mem_map.2 ⟨x, hx, e.symm⟩
  · obtain ⟨x, hx, rfl⟩ := List.mem_map.1 hp
    exact h3 x hx
/-- The next one, whichever it is. -/
theorem Ranged.next {r : Nat} {lf : List α} (h : Ranged kt w r b kv vv l lf) (ty : TypeId) :
    (lf = [] ∧ (Instr.next (.pointer (some ⟨r, 0, none⟩)) false ty).run Try.prog w = .ok (.tuple #[.bool false]) w) ∨
    ∃ x lf' w', x ∈ l ∧ lf.Perm (x :: lf') ∧ (Instr.next (.pointer (some ⟨r, 0, none⟩)) false ty).run Try.prog w = .ok (.tuple #[.bool true, kv x, vv x]) w' ∧ But (· = r) w w' ∧ w'.heap.size = w.heap.size ∧ Ranged kt w' r b kv vv l lf' ∧ (Instr.entry (.pointer (some ⟨r, 0, none⟩))).run Try.prog w' = .ok (.tuple #[kv x, vv x]) w' := by
  obtain ⟨M, L, h1, h2, h3, h4, h5⟩ := h.ex
  have hne := h2.ne
  rcases h2.next (P := Try.prog) ty with ⟨rfl, hr⟩ | ⟨p, L', w', hp, hperm, hr, hb, hs, hg, hen⟩
  · left
    have := h5.length_eq
    rw [List.length_map] at this
    exact ⟨List.eq_nil_of_length_eq_zero (by simpa using this.symm), hr⟩
  · right
    have hpl : p ∈ lf.map (fun x => (kv x, vv x)) := h5.mem_iff.1 (hperm.mem_iff.2 List.mem_cons_self)
    obtain ⟨x, hx, rfl⟩ := List.mem_map.1 hpl
    have hxl := h.sub x hx
    have hsub := h.sub
    obtain ⟨l1, l2, rfl⟩ := List.append_of_mem hx
    have hpm : (l1 ++ x :: l2).Perm (x :: (l1 ++ l2)) := List.perm_middle
    have h6 : L'.Perm ((l1 ++ l2).map (fun x => (kv x, vv x))) := ((hperm.symm.trans h5).trans (hpm.map _)).cons_inv
    exact ⟨x, l1 ++ l2, w', hxl, hpm, hr, hb, hs, ⟨⟨M, L', h1.but hb (fun e => hne e.symm), hg, h3, h4, h6⟩, fun y hy => hsub y (hpm.mem_iff.2 (List.mem_cons_of_mem _ hy))⟩, hen⟩
/-- One that was handed out is taken out. -/
theorem Ranged.del {r : Nat} {lf : List α} (K : Keyed Try.prog kt) (ht : Try.prog.underlying t = some (.map kt et)) (h : Ranged kt w r b kv vv l lf) {x : α} (hx : x ∈ l) {lt : Lit} (hkey : keyOf Try.prog kt (kv x) = some lt) (hout : ∀ y ∈ lf, kv y ≠ kv x) (hl : ∀ y, y ∈ l' ↔ y ∈ l ∧ kv y ≠ kv x) (ty : TypeId) :
    ∃ w', (Builtin.delete_ #[t, kt] ty #[.map (some b), kv x]).run Try.prog w = .ok (.tuple #[]) w' ∧ Ranged kt w' r b kv vv l' lf ∧ But (· = b) w w' ∧ w'.heap.size = w.heap.size := by
  obtain ⟨M, L, h1, h2, h3, h4, h5⟩ := h.ex
  obtain ⟨w', M', hr, hM, hg, hb, hs, hot⟩ := Rg.del (t := t) (et := et) K ht h1 h2 hkey (h4 x hx) (fun u hu => by
    obtain ⟨y, hy, e⟩ := List.mem_map.1 (h5.mem_iff.1 hu)
    exact hout y hy (Prod.mk.inj e).1) ty
  refine ⟨w', hr, ⟨⟨M', L, hM, hg, fun p hp => ?_, fun y hy => ?_, h5⟩, fun y hy => (hl y).2 ⟨h.sub y hy, hout y hy⟩⟩, hb, hs⟩
  · obtain ⟨h6, h7⟩ := (hot p.1 p.2).1 hp
    obtain ⟨y, hy, e⟩ := h3 p h6
    exact ⟨y, (hl y).2 ⟨hy, fun e2 => h7 (by rw [e]; exact e2)⟩, e⟩
  · obtain ⟨h6, h7⟩ := (hl y).1 hy
    exact (hot _ _).2 ⟨h4 y h6, h7⟩
end
end Go.Proofs.Ytehajgfjdmhdpaa
