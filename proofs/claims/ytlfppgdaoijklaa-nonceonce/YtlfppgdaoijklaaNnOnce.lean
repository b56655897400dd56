/- Nonces that were seen, in a row; two sources of a law's own beside it. -/
import Derived.Test.YtlfppgdaoijklaaNnLaw
import Derived.Test.YtlfppgdaoijklaaU32s
import Derived.Test.YtlfppgdaoijklaaCtNonce
import Derived.Test.YtlfppgdaoijklaaOwnRow
namespace Go.Proofs.Ytlfppgdaoijklaa
open Go.RowKit

/-- What was seen: no two with one boot and one number. -/
structure Jn (B C F G i j : Nat) (Q : List En) : Prop where
  sep : Q.Pairwise fun x y => ¬ (x.b = y.b ∧ x.s = y.s)
  ok : ∀ x ∈ Q, x.ok
  low : ∀ x ∈ Q, (x.b = B ∧ x.s < F + i) ∨ (B ≠ C ∧ x.b = C ∧ x.s < G + j)
  len : Q.length ≤ i + j
section
variable {B C F G i j : Nat} {Q : List En}
theorem Jn.nil : Jn B C F G 0 0 [] := ⟨List.Pairwise.nil, nofun, nofun, Nat.zero_le _⟩
theorem Jn.skip1 (h : Jn B C F G i j Q) : Jn B C F G (i + 1) j Q := ⟨h.sep, h.ok, fun x hx => by rcases h.low x hx with h | h <;> omega, by have := h.len; omega⟩
theorem Jn.skip2 (h : Jn B C F G i j Q) : Jn B C F G i (j + 1) Q := ⟨h.sep, h.ok, fun x hx => by rcases h.low x hx with h | h <;> omega, by have := h.len; omega⟩
theorem Jn.push {i' j' : Nat} (h : Jn B C F G i j Q) (y : En) (hy : y.ok) (h1 : ∀ x ∈ Q, ¬ (x.b = y.b ∧ x.s = y.s)) (h2 : (y.b = B ∧ y.s < F + i') ∨ (B ≠ C ∧ y.b = C ∧ y.s < G + j')) (hi : i ≤ i') (hj : j ≤ j') (hl : i + j < i' + j') : Jn B C F G i' j' (Q ++ [y]) := by
  refine ⟨List.pairwise_append.2 ⟨h.sep, List.pairwise_singleton _ _, fun a ha b hb => ?_⟩, fun x hx => ?_, fun x hx => ?_, ?_⟩
  · rw [List.mem_singleton.1 hb]; exact h1 a ha
  · rcases List.mem_append.1 hx with hx | hx
    · exact h.ok x hx
    · rw [List.mem_singleton.1 hx]; exact hy
  · rcases List.mem_append.1 hx with hx | hx
    · rcases h.low x hx with h | h <;> omega
    · rw [List.mem_singleton.1 hx]; exact h2
  · rw [List.length_append, List.length_singleton]; have := h.len; omega
theorem Jn.push1 (h : Jn B C F G i j Q) (E : Nat) (hy : En.ok ⟨E, B, F + i⟩) : Jn B C F G (i + 1) j (Q ++ [⟨E, B, F + i⟩]) :=
  h.push ⟨E, B, F + i⟩ hy (fun x hx => by rcases h.low x hx with h | h <;> simp only <;> omega) (.inl ⟨rfl, by simp only; omega⟩) (by omega) (Nat.le_refl _) (by omega)
theorem Jn.push2 (h : Jn B C F G i j Q) (E : Nat) (hy : En.ok ⟨E, C, G + j⟩) (hne : B ≠ C) : Jn B C F G i (j + 1) (Q ++ [⟨E, C, G + j⟩]) :=
  h.push ⟨E, C, G + j⟩ hy (fun x hx => by rcases h.low x hx with h | h <;> simp only <;> omega) (.inr ⟨hne, rfl, by simp only; omega⟩) (Nat.le_refl _) (by omega) (by omega)
/-- Two of them, one behind the other, have unlike nonces. -/
theorem Jn.apart (h : Jn B C F G i j Q) {a b : Nat} {x y : En} (hx : Q[a]? = some x) (hy : Q[b]? = some y) (hab : a < b) : ¬ nbs y = nbs x := by
  obtain ⟨la, ha⟩ := List.getElem?_eq_some_iff.1 hx
  obtain ⟨lb, hb⟩ := List.getElem?_eq_some_iff.1 hy
  have h1 := List.pairwise_iff_getElem.1 h.sep a b la lb hab
  rw [ha, hb] at h1
  intro e
  have := (nbs_eq (h.ok y (List.mem_of_getElem? hy)) (h.ok x (List.mem_of_getElem? hx))).1 e
  exact h1 ⟨this.1.symm, this.2.symm⟩
end
abbrev ncs (Q : List En) : List Value := Q.flatMap fun x => u8s (nbs x)
theorem nb12 (x : En) : (u8s (nbs x)).length = 12 := by simp [u8s, nbs_len]
theorem inf12 : (Try.prog.info? 37).map (fun i => (i.zero, i.size, i.bytes)) = some (some (.agg (u8s (List.replicate 12 0)).toArray), 12, 12) := by kernel_rfl
/-- Both sources, and the row. -/
structure On (w w2 wr : World) (g1 g2 B C p q : Nat) (v : Value) (Q : List En) : Prop where
  a : Sr w wr g1 B p
  b : Sr w wr g2 C q
  r : wr.ownsRow 0 37 12 v Q.length (ncs Q)
  new : ∀ k, v.ownBlock = some k → w2.heap.size ≤ k
  l1 : g1 < w2.heap.size
  l2 : g2 < w2.heap.size
  ne : g1 ≠ g2
  gr : w.heap.size ≤ w2.heap.size
  gr2 : w2.heap.size ≤ wr.heap.size
section
variable {w w2 wr w' : World} {g1 g2 B C p q : Nat} {v : Value} {Q : List En}
theorem On.then (h : On w w2 wr g1 g2 B C p q v Q) (k : Grow wr w') : On w w2 w' g1 g2 B C p q v Q := ⟨h.a.then k, h.b.then k, ownsRow_grow h.r k, h.new, h.l1, h.l2, h.ne, h.gr, Nat.le_trans h.gr2 k.size⟩
theorem on_next1 (h : On w w2 wr g1 g2 B C p q v Q) (E : Nat) : Calls Try.prog 10 #[ptr g1, .int .u32 (E : Int)] wr fun e w' => e = .returned (.tuple #[evalE (tldE E B p), .int .i64 (codE p)]) ∧ On w w2 w' g1 g2 B C (p + 1) q v Q ∧ But (· = g1) wr w' :=
  (sr_next h.a E).mono fun _ _ k => ⟨k.1, ⟨k.2.1, h.b.but k.2.2 (fun e => h.ne e.symm) (fun b e => by rw [e]; exact h.a.new), ownsRow_but h.r k.2.2 (fun j hj e => by have := h.new j hj; have := h.l1; omega), h.new, h.l1, h.l2, h.ne, h.gr, Nat.le_trans h.gr2 k.2.2.size⟩, k.2.2⟩
theorem on_next2 (h : On w w2 wr g1 g2 B C p q v Q) (E : Nat) : Calls Try.prog 10 #[ptr g2, .int .u32 (E : Int)] wr fun e w' => e = .returned (.tuple #[evalE (tldE E C q), .int .i64 (codE q)]) ∧ On w w2 w' g1 g2 B C p (q + 1) v Q ∧ But (· = g2) wr w' :=
  (sr_next h.b E).mono fun _ _ k => ⟨k.1, ⟨h.a.but k.2.2 (fun e => h.ne e) (fun b e => by rw [e]; exact h.b.new), k.2.1, ownsRow_but h.r k.2.2 (fun j hj e => by have := h.new j hj; have := h.l2; omega), h.new, h.l1, h.l2, h.ne, h.gr, Nat.le_trans h.gr2 k.2.2.size⟩, k.2.2⟩
theorem On.app {wa w8 : World} {v4 : Value} {m : Nat} (h : On w w2 wr g1 g2 B C p q v Q) (x : En) (k : Grow wr wa) (hm : m = Q.length + 1) (hap : Appd wa w8 37 12 v v4 m (ncs Q ++ u8s (nbs x))) : On w w2 w8 g1 g2 B C p q v4 (Q ++ [x]) := by
  subst hm
  have h2 := h.then k
  have e : ncs (Q ++ [x]) = ncs Q ++ u8s (nbs x) := by simp [ncs]
  refine ⟨h2.a.but hap.but (fun e => by have := h.new _ e; have := h.l1; omega) (fun b e => by have := h.new _ e; have := h.gr; omega), h2.b.but hap.but (fun e => by have := h.new _ e; have := h.l2; omega) (fun b e => by have := h.new _ e; have := h.gr; omega), ?_, fun k hk => ?_, h.l1, h.l2, h.ne, h.gr, Nat.le_trans h2.gr2 hap.but.size⟩
  · rw [e, List.length_append, List.length_singleton]
    exact hap.own
  · rcases hap.at' with e | e
    · rw [e] at hk; exact h.new k hk
    · rw [e] at hk
      have : wa.heap.size = k := Option.some.inj hk
      have := h2.gr2
      omega
/-- A block that is not the row's stays when it is appended to. -/
theorem On.keep {wa w8 : World} {v4 : Value} {m : Nat} {xs : List Value} {gx : Nat} {T : TypeId} {L : List Value} (hx : v.ownBlock ≠ some gx) (hap : Appd wa w8 37 12 v v4 m xs) (hb : Blk wa gx T L) : Blk w8 gx T L ∧ v4.ownBlock ≠ some gx :=
  ⟨hb.but hap.but (fun e => hx e), fun e => by
    rcases hap.at' with e2 | e2
    · exact hx (e2 ▸ e)
    · rw [e2] at e
      have : wa.heap.size = gx := Option.some.inj e
      have := hb.lt
      omega⟩
/-- A nonce of the row. -/
theorem On.cells (h : On w w2 wr g1 g2 B C p q v Q) (h0 : 0 < Q.length) : ∃ b cap, v = .slice (some ⟨b, 0, none⟩) Q.length cap ∧ Q.length ≤ cap ∧ ∀ i x, Q[i]? = some x → ∀ w', Grow wr w' → ∀ j u, (u8s (nbs x))[j]? = some u → w'.cell? ((⟨b, i * 12, none⟩ : Addr).add j) = some u := by
  have hr : RowOf wr (fun _ => True) 37 12 v Q.length (ncs Q) := ⟨h.r, fun _ _ => trivial⟩
  obtain ⟨ao, c4, rfl, h2⟩ := hr.shape
  obtain ⟨g, rfl, -, -, hc⟩ := h2 h0
  refine ⟨g, c4, rfl, hr.cap.1, fun i x hx w' k j u hu => ?_⟩
  rw [addr_add]
  exact grow_cell k (hc _ u (flat_at Q (fun x _ => nb12 x) i x j u hx hu))
end
end Go.Proofs.Ytlfppgdaoijklaa
