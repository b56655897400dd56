/- Both tables of latches in one memory. -/
import Derived.Test.YtgldkckhliklhaaLtRefDo
import Derived.Test.YtgldkckhliklhaaLtView
namespace Go.Proofs.Ytgldkckhliklhaa
open Go.RowKit

/-- Both are new since w0; E: blocks of the law. -/
structure Tl (E : Nat → Prop) (w0 w : World) (gt gx : Nat) (s x : Ls) : Prop where
  ex : ∃ vh vq, Rt w gx vh vq x ∧ Ll (fun b => RS gx vh vq b ∨ E b) w0 w gt s ∧ ∀ b, RS gx vh vq b → w0.heap.size ≤ b ∧ ¬ E b
  agr : LAgr s x
  ok : Lok x
section
variable {E E' : Nat → Prop} {w0 w w' : World} {gt gx : Nat} {s x s' x' : Ls} {t k : Int} {a : Bool}
theorem Tl.then (h : Tl E w0 w gt gx s x) (k : Grow w w') : Tl E w0 w' gt gx s x := by
  obtain ⟨vh, vq, h1, h2, h3⟩ := h.ex
  exact ⟨⟨vh, vq, h1.grow k, h2.then k, h3⟩, h.agr, h.ok⟩
theorem Tl.grow (h : Tl E w0 w gt gx s x) : Grow w0 w := by obtain ⟨vh, vq, h1, h2, h3⟩ := h.ex; exact h2.grow
theorem Tl.oks (h : Tl E w0 w gt gx s x) : Lok s := by obtain ⟨vh, vq, h1, h2, h3⟩ := h.ex; exact h2.ok
theorem Tl.stb (h : Tl E w0 w gt gx s x) (j : Int) : Stb s j := by obtain ⟨vh, vq, h1, h2, h3⟩ := h.ex; exact h2.stb j
theorem Tl.stbx (h : Tl E w0 w gt gx s x) (j : Int) : Stb x j := stb_ne (s := s) (h.agr.qk j) (fun y _ => h.agr.mem y) (h.stb j)
theorem Tl.sum (h : Tl E w0 w gt gx s x) : x.has.length + x.q.length = s.has.length + s.q.length := by rw [h.agr.has.length_eq, h.agr.q]
theorem Tl.less (h : Tl E w0 w gt gx s x) (hE : ∀ b, E' b → E b) : Tl E' w0 w gt gx s x := by
  obtain ⟨vh, vq, h1, h2, h3⟩ := h.ex
  exact ⟨⟨vh, vq, h1, h2.less (fun b hb => hb.imp id (hE b)), fun b hb => ⟨(h3 b hb).1, fun e => (h3 b hb).2 (hE b e)⟩⟩, h.agr, h.ok⟩
/-- New memory is the law's. -/
theorem Tl.box (h : Tl (fun _ => False) w0 w gt gx s x) (k : Grow w w') {g : Nat} (hg : w.heap.size ≤ g) (hl : g < w'.heap.size) : Tl (· = g) w0 w' gt gx s x := by
  obtain ⟨vh, vq, h1, h2, h3⟩ := h.ex
  refine ⟨⟨vh, vq, h1.grow k, h2.add k (fun b hb => ?_), fun b hb => ⟨(h3 b hb).1, fun e => ?_⟩⟩, h.agr, h.ok⟩
  · rcases hb with e | e
    · exact .inl (.inl e)
    · exact .inr (by omega)
  · have := h1.lt hb; omega
theorem Ll.turn2 {F G R : Nat → Prop} (h : Ll F w0 w gt s) (k : But R w w') (hr : ∀ b, R b → F b ∧ w0.heap.size ≤ b) (hG : ∀ b, G b → (F b ∨ w.heap.size ≤ b) ∧ b < w'.heap.size) : Ll G w0 w' gt s := by
  obtain ⟨o, h1, h2⟩ := h.ex
  refine ⟨⟨o, h1.but k (fun b hb e => (h2 b hb).2 (hr b e).1), fun b hb => ⟨(h2 b hb).1, fun e => ?_⟩⟩, h.ok, h.stb, h.grow.then k (fun i hi e => by have := (hr i e).2; omega), fun b hb => (hG b hb).2⟩
  rcases (hG b e).1 with e1 | e1
  · exact (h2 b hb).2 e1
  · exact hb (h1.top b e1)
/-- A call on the reference's table. -/
theorem tl_ref {vh vq : Value} (h2 : Ll (fun b => RS gx vh vq b ∨ E b) w0 w gt s) (h3 : ∀ b, RS gx vh vq b → w0.heap.size ≤ b ∧ ¬ E b) (hl : ∀ b, E b → b < w.heap.size) (k : RtTo w gx vh vq x' w') (ha : LAgr s x') (ho : Lok x') : Tl E w0 w' gt gx s x' ∧ But (fun b => w0.heap.size ≤ b ∧ ¬ E b) w w' := by
  obtain ⟨vh', vq', k1, k2, k3⟩ := k
  refine ⟨⟨⟨vh', vq', k1, h2.turn2 k2 (fun b hb => ⟨.inl hb, (h3 b hb).1⟩) (fun b hb => ?_), fun b hb => ?_⟩, ha, ho⟩, k2.mono (fun b _ e => h3 b e)⟩
  · rcases hb with e | e
    · refine ⟨?_, k1.lt e⟩
      rcases k3 b e with e1 | e1
      · exact .inl (.inl e1)
      · exact .inr e1
    · exact ⟨.inl (.inr e), Nat.lt_of_lt_of_le (hl b e) k2.size⟩
  · rcases k3 b hb with e1 | e1
    · exact h3 b e1
    · exact ⟨Nat.le_trans h2.grow.size e1, fun e => by have := hl b e; omega⟩
theorem Tl.lt (h : Tl E w0 w gt gx s x) : ∀ b, E b → b < w.heap.size := by
  obtain ⟨vh, vq, h1, h2, h3⟩ := h.ex
  exact fun b hb => h2.lt b (.inr hb)
abbrev Kp (E : Nat → Prop) (w0 : World) : Nat → Prop := fun b => w0.heap.size ≤ b ∧ ¬ E b
/-- Ask, of both: the program's has been asked, the reference's not yet. -/
def TlA (E : Nat → Prop) (w0 w : World) (gt gx : Nat) (s x : Ls) (y : Wt) : Prop := (∃ vh vq, Rt w gx vh vq x ∧ Ll (fun b => RS gx vh vq b ∨ E b) w0 w gt (s.asked y) ∧ ∀ b, RS gx vh vq b → w0.heap.size ≤ b ∧ ¬ E b)
theorem tl_ask (h : Tl E w0 w gt gx s x) (ht : i64 t) (hk : i64 k) (hs : s.has.length + s.q.length < 10000) : Calls Try.prog 14 #[ptr gt, .int .i64 t, .int .i64 k, .bool a] w fun e w' => e = .returned (.tuple #[.bool (s.got (t, k, a)), .int .i64 (s.askc (t, k, a))]) ∧ TlA E w0 w' gt gx s x (t, k, a) ∧ But (Kp E w0) w w' := by
  obtain ⟨vh, vq, h1, h2, h3⟩ := h.ex
  refine (ll_ask h2 ht hk hs).mono ?_
  rintro e w' ⟨rfl, k1, k2⟩
  exact ⟨rfl, ⟨vh, vq, h1.but k2 (fun b hb e => e.2 (.inl hb)), k1, h3⟩, k2.mono (fun b _ e => ⟨e.1, fun e2 => e.2 (.inr e2)⟩)⟩
theorem tl_rask (h0 : Tl E w0 w gt gx s x) (hE : ∀ b, E b → b < w'.heap.size) (h : TlA E w0 w' gt gx s x (t, k, a)) (ht : i64 t) (hk : i64 k) (hs : s.has.length + s.q.length < 10000) : Calls Try.prog 15 #[ptr gx, .int .i64 t, .int .i64 k, .bool a] w' fun e w2 => e = .returned (.tuple #[.bool (s.got (t, k, a)), .int .i64 (s.askc (t, k, a))]) ∧ Tl E w0 w2 gt gx (s.asked (t, k, a)) (x.asked (t, k, a)) ∧ But (Kp E w0) w' w2 := by
  obtain ⟨vh, vq, h1, h2, h3⟩ := h
  obtain ⟨g1, g2, g3⟩ := h0.agr.asked h0.oks h0.ok (t, k, a)
  have hst := h0.stbx
  have hsx := h0.sum
  refine (rask_any (a := a) h1 h0.ok hst ht hk (by omega)).mono ?_
  rintro e w2 ⟨rfl, k1⟩
  rw [g2, g3]
  have hok : Lok (x.asked (t, k, a)) := ⟨?_, ?_, ?_, ?_, ?_, ?_⟩
  · exact ⟨rfl, tl_ref h2 h3 hE k1 g1 hok⟩
  all_goals
    have := h2.ok
    have hp := g1.has
    have hq := g1.q
    first
      | exact (hp.map _).nodup_iff.2 this.hn
      | (rw [hq]; exact this.qn)
      | exact fun y hy => this.ih y (hp.mem_iff.1 hy)
      | (rw [hq]; exact this.iq)
      | (rw [hq]; exact fun y hy z hz => this.dis y hy z (hp.mem_iff.1 hz))
      | exact fun y hy z hz => this.al y (hp.mem_iff.1 hy) z (hp.mem_iff.1 hz)
/-- Free, of both: the program's has let go, the reference's not yet. -/
def TlF (E : Nat → Prop) (w0 : World) (gt gx : Nat) (s x : Ls) (t : Int) (v : Value) (w' : World) : Prop := ∃ G s' vh vq, Fre s t G s' ∧ Nums w' v (srt (G.map (·.1))) ∧ Rt w' gx vh vq x ∧ Ll (fun b => RS gx vh vq b ∨ E b) w0 w' gt s' ∧ (∀ b, RS gx vh vq b → w0.heap.size ≤ b ∧ ¬ E b) ∧ (∀ b, v.ownBlock = some b → ¬ RS gx vh vq b)
theorem TlF.then {v : Value} (h : TlF E w0 gt gx s x t v w) (k : Grow w w') : TlF E w0 gt gx s x t v w' := by
  obtain ⟨G, s', vh, vq, h1, h2, h3, h4, h5, h6⟩ := h
  exact ⟨G, s', vh, vq, h1, h2.grow k, h3.grow k, h4.then k, h5, h6⟩
theorem tl_free (h : Tl E w0 w gt gx s x) (ht : i64 t) (hs : s.has.length + s.q.length ≤ 10000) : Calls Try.prog 12 #[ptr gt, .int .i64 t] w fun e w' => ∃ v, e = .returned v ∧ TlF E w0 gt gx s x t v w' ∧ But (Kp E w0) w w' := by
  obtain ⟨vh, vq, h1, h2, h3⟩ := h.ex
  refine (ll_free h2 ht hs).mono ?_
  rintro e w' ⟨v, G, s', rfl, k1, k2, k3, k4, k5⟩
  exact ⟨v, rfl, ⟨G, s', vh, vq, k1, k2, h1.but k5 (fun b hb e => e.2 (.inl hb)), k3, h3, fun b hb e => by
    have h7 := (k4 b hb).1
    have h8 := h1.lt e
    omega⟩, k5.mono (fun b _ e => ⟨e.1, fun e2 => e.2 (.inr e2)⟩)⟩
/-- Both have let go. -/
def TlG (E : Nat → Prop) (w0 : World) (gt gx : Nat) (n : Nat) (v u : Value) (w' : World) : Prop := ∃ r s' x', Nums w' v r ∧ Nums w' u r ∧ Tl E w0 w' gt gx s' x' ∧ s'.has.length + s'.q.length ≤ n
theorem TlG.then {v u : Value} {n : Nat} (h : TlG E w0 gt gx n v u w) (k : Grow w w') : TlG E w0 gt gx n v u w' := by
  obtain ⟨r, s', x', h1, h2, h3, h4⟩ := h
  exact ⟨r, s', x', h1.grow k, h2.grow k, h3.then k, h4⟩
theorem tl_rfree {v : Value} (h0 : Tl E w0 w gt gx s x) (hE : ∀ b, E b → b < w'.heap.size) (h : TlF E w0 gt gx s x t v w') (hs : s.has.length + s.q.length ≤ 10000) : Calls Try.prog 13 #[ptr gx, .int .i64 t] w' fun e w2 => ∃ u, e = .returned u ∧ TlG E w0 gt gx (s.has.length + s.q.length) v u w2 ∧ But (Kp E w0) w' w2 := by
  obtain ⟨G, s', vh, vq, h1, h2, h3, h4, h5, h6⟩ := h
  have hsx := h0.sum
  refine (rfree_any (t := t) h3 h0.ok (by omega)).mono ?_
  rintro e w2 ⟨u, G', x', rfl, k1, k2, k3, k4, k5⟩
  obtain ⟨g1, g2⟩ := h0.agr.free (h0.ok.wo t) h1 k1 k2
  obtain ⟨t1, t2⟩ := tl_ref h4 h5 hE k3 g1 (steps_lok k1 (h0.ok.wo t))
  refine ⟨u, rfl, ⟨srt (G.map (·.1)), s', x', ?_, by rw [g2]; exact k4, t1, h1.sum⟩, t2⟩
  obtain ⟨vh', vq', q1, q2, q3⟩ := k3
  exact h2.but q2 (fun j hj _ e => h6 j hj e)
end
end Go.Proofs.Ytgldkckhliklhaa
