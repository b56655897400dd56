/- The law's do on two devices that need not agree: a ghost g agrees with the reference's. -/
import Derived.Test.YtfgcbcopgikodaaAllD
namespace Go.Proofs.Ytfgcbcopgikodaa
open Go.RowKit

structure Wok (g : Dev) : Prop where
  up : g.wt.Pairwise (· < ·)
  lt : ∀ i ∈ g.wt, i < g.wr.length
section
variable {F : Nat → Prop} {w0 w : World} {gd gx n : Nat} {s g : Dev} {x : Rdv}
theorem Agr.gok (h : Agr g x) (hx : x.ok) (hw : Wok g) : g.ok :=
  ⟨by rw [← h.st]; exact hx.n1, by rw [← h.st]; exact hx.nb, by rw [← h.st]; exact hx.st, by rw [← h.wr, ← h.st]; exact hx.wr, hw.up, hw.lt, by rw [← h.im, ← h.st]; exact hx.im⟩
theorem wok_nil (g : Dev) (h : g.wt = []) : Wok g := ⟨by rw [h]; exact List.Pairwise.nil, by rw [h]; exact fun _ h => absurd h List.not_mem_nil⟩
theorem wok_wrote (h : Wok g) (y : Int) (xs : List Nat) : Wok (g.wrote y xs) := by
  unfold Dev.wrote
  split
  · split
    · refine ⟨?_, ?_⟩
      · show (g.wt ++ [g.wr.length]).Pairwise (· < ·)
        rw [List.pairwise_append]
        exact ⟨h.up, List.pairwise_singleton _ _, fun a ha b hb => by rw [show b = g.wr.length by simpa using hb]; exact h.lt a ha⟩
      · intro i hi
        have hi' : i ∈ g.wt ++ [g.wr.length] := hi
        show i < (g.wr ++ [_]).length
        rw [List.length_append, List.length_singleton]
        rcases List.mem_append.1 hi' with hi | hi
        · have := h.lt i hi; omega
        · rw [show i = g.wr.length by simpa using hi]; omega
    · exact h
  · exact h
theorem wok_flu (h : Wok g) : Wok g.flu := by
  unfold Dev.flu
  split
  · split
    · exact ⟨h.up, h.lt⟩
    · exact wok_nil _ rfl
  · exact h
theorem wok_spent (h : Wok g) : Wok g.spent := by
  unfold Dev.spent
  split
  · exact ⟨h.up, h.lt⟩
  · exact h
theorem wok_ond (h : Wok g) (fs : List Int) : Wok (g.ond fs) := by
  unfold Dev.ond
  split
  · exact h
  · exact wok_nil _ rfl
theorem wok_laid (h : Wok g) (b : Nat) (D : List Nat) : Wok (g.laid b D) :=
  ⟨h.up.filter _, fun i hi => h.lt i (List.mem_filter.1 hi).1⟩
theorem wok_poked (h : Wok g) (y z : Int) (ys : List Nat) : Wok (g.poked y z ys) := by
  unfold Dev.poked
  split
  · exact wok_laid h _ _
  · exact h
theorem wok_copied (h : Wok g) (y z : Int) : Wok (g.copied y z) := by
  unfold Dev.copied
  split
  · exact wok_laid h _ _
  · exact h
theorem wok_snapd (h : Wok g) : Wok g.snapd := by
  unfold Dev.snapd
  split
  · exact h
  · exact ⟨h.up, h.lt⟩
theorem wok_backd (h : Wok g) (y : Int) : Wok (g.backd y) := by
  unfold Dev.backd
  split
  · exact wok_nil _ rfl
  · exact h
end
structure DoT2 (F : Nat → Prop) (w0 w : World) (gd gx : Nat) (s0 : Dev) (n : Nat) : Prop where
  ex : ∃ s g x, Tf F w0 w gd gx s x ∧ Agr g x ∧ Wok g ∧ Sm s x n ∧ Sm g x n ∧ Kp s0 s
theorem DoT2.then {F : Nat → Prop} {w0 w w' : World} {gd gx n : Nat} {s0 : Dev} (h : DoT2 F w0 w gd gx s0 n) (k : Grow w w') : DoT2 F w0 w' gd gx s0 n := by
  obtain ⟨s, g, x, h1, h2⟩ := h.ex
  exact ⟨s, g, x, h1.then k, h2⟩
theorem DoT2.but {F : Nat → Prop} {w0 w : World} {gd gx n : Nat} {s0 : Dev} (h : DoT2 F w0 w gd gx s0 n) : But (fun b => ¬ F b) w0 w := by
  obtain ⟨s, g, x, h1, h2⟩ := h.ex
  exact h1.but
def DoIs2 (F : Nat → Prop) (w0 : World) (gd gx : Nat) (s0 : Dev) (n : Nat) (e : Ending) (w' : World) : Prop := ∃ r, e = .returned (.bool r) ∧ DoT2 F w0 w' gd gx s0 n
structure DoIn2 (F : Nat → Prop) (w0 w : World) (gd gx : Nat) (s0 : Dev) (n : Nat) (A : DA) (ud uf : Value) : Prop where
  st : DoT2 F w0 w gd gx s0 n
  le : n ≤ 900
  ra : -9223372036854775808 ≤ A.a ∧ A.a ≤ 9223372036854775807
  rb : -9223372036854775808 ≤ A.b ∧ A.b ≤ 9223372036854775807
  dat : Bf w F ud A.dat
  fat : IntF w F uf A.fat
  sm : DSmall A
theorem DoIn2.box2 {F : Nat → Prop} {w0 w wa wb : World} {gd gx n gp ga : Nat} {s0 : Dev} {A : DA} {ud uf : Value} (h : DoIn2 F w0 w gd gx s0 n A ud uf)
    (hwa : wa = w.alloc (.cells #[.pointer (some ⟨gd, 0, none⟩), .pointer (some ⟨gx, 0, none⟩)] 28)) (hwb : wb = wa.alloc (.cells (dcells A ud uf).toArray 35)) (hgp : gp = w.heap.size) (hga : ga = wa.heap.size) :
    ∃ s g x, Agr g x ∧ Wok g ∧ Sm s x n ∧ Sm g x n ∧ g.ok ∧ Do1 (FB F w wb) wb wb gp ga gd gx A ud uf s x ∧
      ∀ w' s' g' x', Tf (FB F w wb) wb w' gd gx s' x' → Agr g' x' → Wok g' → Sm s' x' (n + 1) ∧ Kp s s' → Sm g' x' (n + 1) → DoT2 F w0 w' gd gx s0 (n + 1) := by
  obtain ⟨s, g, x, ht, ha, hw, hb, hbg, hk⟩ := h.st.ex
  have g1 : Grow w wa := by rw [hwa]; exact (But.refl _ w).alloc _
  have g2 : Grow wa wb := by rw [hwb]; exact (But.refl _ wa).alloc _
  have gg := g1.trans g2
  have b1 : Blk wa gp 28 [.pointer (some ⟨gd, 0, none⟩), .pointer (some ⟨gx, 0, none⟩)] := by rw [hwa]; exact Blk.new (L := [.pointer (some ⟨gd, 0, none⟩), .pointer (some ⟨gx, 0, none⟩)]) hgp.symm
  have b2 : Blk wb ga 35 (dcells A ud uf) := by rw [hwb]; exact Blk.new hga.symm
  have l1 := b1.lt
  have l2 := b2.lt
  have l3 := g1.size
  have l4 := g2.size
  refine ⟨s, g, x, ha, hw, hb, hbg, ha.gok ht.xok hw, ⟨ht.add gg, b1.but g2 (fun h => h), b2, .inr ⟨by omega, by omega⟩, .inr ⟨by omega, by omega⟩, ?_, ?_⟩, fun w' s' g' x' ht' ha' hw' hb' hbg' => ⟨s', g', x', ht'.less (fun k hk => .inl hk) ht.fl ?_, ha', hw', hb'.1, hbg', hk.trans hb'.2⟩⟩
  · have h1 := h.dat.but gg (fun _ _ h => h)
    exact ⟨h1.1, fun h0 j hj => .inl (h1.2 h0 j hj)⟩
  · have h1 := h.fat.but gg (fun _ _ h => h)
    exact ⟨h1.1, fun h0 j hj => .inl (h1.2 h0 j hj)⟩
  · exact (ht.but.trans (gg.mono (fun _ _ h => h.elim))).then ht'.but (fun b _ hn hf => hn (.inl hf))
end Go.Proofs.Ytfgcbcopgikodaa
