/- A table of latches of a law's own: what its calls leave of all that isn't the table's. -/
import Derived.Test.YtgldkckhliklhaaLtSet
import Derived.Test.YtgldkckhliklhaaLtAsk
import Derived.Test.YtgldkckhliklhaaLtFreed
import Derived.Test.YtgldkckhliklhaaNumsMore
namespace Go.Proofs.Ytgldkckhliklhaa
open Go.RowKit Go.Maps

/-- The table at gt is new since w0, and no block of F is its; nothing more can be granted. -/
structure Ll (F : Nat → Prop) (w0 w : World) (gt : Nat) (s : Ls) : Prop where
  ex : ∃ own, Lt w own gt s ∧ ∀ b, own b ≠ .none → w0.heap.size ≤ b ∧ ¬ F b
  ok : Lok s
  stb : ∀ j, Stb s j
  grow : Grow w0 w
  lt : ∀ b, F b → b < w.heap.size
/-- What a call turns. -/
abbrev Fo (F : Nat → Prop) (w0 : World) : Nat → Prop := fun b => w0.heap.size ≤ b ∧ ¬ F b
def Ls.busy (s : Ls) (x : Wt) : Bool := s.wait x.1 || !(s.hold x.1 x.2.1 == 0)
def Ls.asked (s : Ls) (x : Wt) : Ls := if s.busy x then s else s.askR x
def Ls.got (s : Ls) (x : Wt) : Bool := !s.busy x && ((s.qk x.2.1).isEmpty && mayG s.has x)
def Ls.askc (s : Ls) (x : Wt) : Int := if s.busy x then 6 else 0
theorem Lt.but {R : Nat → Prop} {w w' : World} {own : Owner} {gt : Nat} {s : Ls} (h : Lt w own gt s) (k : But R w w') (hr : ∀ b, own b ≠ .none → ¬ R b) : Lt w' own gt s := by
  obtain ⟨gl, gh, gw, lb, hb, KL, TL, h⟩ := h
  exact ⟨gl, gh, gw, lb, hb, KL, TL, h.but k hr⟩
theorem Lt.grow {w w' : World} {own : Owner} {gt : Nat} {s : Ls} (h : Lt w own gt s) (k : Grow w w') : Lt w' own gt s := h.but k (fun _ _ h => h)
theorem Lt.top {w : World} {own : Owner} {gt : Nat} {s : Ls} (h : Lt w own gt s) : Top w own := by
  obtain ⟨gl, gh, gw, lb, hb, KL, TL, h⟩ := h
  exact h.top
theorem hold_of {s : Ls} (hok : Lok s) {x : Wt} (hx : x ∈ s.has) : s.hold x.1 x.2.1 = mode x := holdL_of hok.hn hx
theorem hold_none {s : Ls} {t k : Int} (h : ∀ x ∈ s.has, x.1 = t → x.2.1 ≠ k) : s.hold t k = 0 := holdL_none h
theorem hold_inv {s : Ls} {t k : Int} (h : s.hold t k ≠ 0) : ∃ a, (t, k, a) ∈ s.has ∧ s.hold t k = if a then 2 else 1 := by
  unfold Ls.hold at h ⊢
  cases e : s.has.find? (fun x => x.1 == t && x.2.1 == k) with
  | none => rw [e] at h; exact absurd rfl h
  | some x =>
    have h1 := List.find?_some e
    simp only [Bool.and_eq_true, beq_iff_eq] at h1
    obtain ⟨tx, kx, ax⟩ := x
    obtain ⟨rfl, rfl⟩ := h1
    exact ⟨ax, List.mem_of_find?_eq_some e, rfl⟩
theorem busy_not {s : Ls} {x : Wt} (h : s.busy x = false) : s.wait x.1 = false ∧ s.hold x.1 x.2.1 = 0 := by
  unfold Ls.busy at h
  rw [Bool.or_eq_false_iff] at h
  exact ⟨h.1, by simpa using h.2⟩
theorem askR_hold {s : Ls} {x : Wt} (hok' : Lok (s.askR x)) (hb : s.busy x = false) : (!((s.askR x).hold x.1 x.2.1 == 0)) = s.got x := by
  obtain ⟨hw, hh⟩ := busy_not hb
  unfold Ls.got
  rw [hb]
  cases e : (s.qk x.2.1).isEmpty && mayG s.has x with
  | true =>
    have h1 : s.askR x = ⟨s.has ++ [x], s.q⟩ := by unfold Ls.askR; rw [if_pos e]
    rw [h1] at hok' ⊢
    rw [hold_of hok' (x := x) (by simp)]
    simpa using mode_pos x
  | false =>
    have h1 : s.askR x = s.ask x := by unfold Ls.askR; rw [if_neg (by rw [e]; decide)]
    rw [h1]
    have : (s.ask x).hold x.1 x.2.1 = 0 := hh
    rw [this]
    rfl
section
variable {F G : Nat → Prop} {w0 w w' : World} {own : Owner} {gt : Nat} {s s' : Ls} {R : Nat → Prop} {f : FuncId} {args : Array Value} {r : Value}
theorem Ll.then (h : Ll F w0 w gt s) (k : Grow w w') : Ll F w0 w' gt s := by
  obtain ⟨o, h1, h2⟩ := h.ex
  exact ⟨⟨o, h1.grow k, h2⟩, h.ok, h.stb, h.grow.trans k, fun b hb => Nat.lt_of_lt_of_le (h.lt b hb) k.size⟩
/-- Blocks of the law are written. -/
theorem Ll.turn (h : Ll F w0 w gt s) (k : But R w w') (hr : ∀ b, R b → F b ∧ w0.heap.size ≤ b) : Ll F w0 w' gt s := by
  obtain ⟨o, h1, h2⟩ := h.ex
  refine ⟨⟨o, h1.but k (fun b hb e => (h2 b hb).2 (hr b e).1), h2⟩, h.ok, h.stb, h.grow.then k (fun i hi e => by have := (hr i e).2; omega), fun b hb => Nat.lt_of_lt_of_le (h.lt b hb) k.size⟩
/-- New memory is the law's. -/
theorem Ll.add (h : Ll F w0 w gt s) (k : Grow w w') (hG : ∀ b, G b → F b ∨ (w.heap.size ≤ b ∧ b < w'.heap.size)) : Ll G w0 w' gt s := by
  obtain ⟨o, h1, h2⟩ := h.ex
  refine ⟨⟨o, h1.grow k, fun b hb => ⟨(h2 b hb).1, fun e => ?_⟩⟩, h.ok, h.stb, h.grow.trans k, fun b hb => ?_⟩
  · rcases hG b e with e | e
    · exact (h2 b hb).2 e
    · exact hb (h1.top b e.1)
  · rcases hG b hb with e | e
    · exact Nat.lt_of_lt_of_le (h.lt b e) k.size
    · exact e.2
theorem Ll.less (h : Ll F w0 w gt s) (hG : ∀ b, G b → F b) : Ll G w0 w gt s := h.add (But.refl _ _) (fun b hb => .inl (hG b hb))
theorem Ll.to {own' : Owner} (h : ∀ b, own b ≠ .none → w0.heap.size ≤ b ∧ ¬ F b) (hg : Grow w0 w) (hl : ∀ b, F b → b < w.heap.size) (kl : Lt w' own' gt s') (hs : Sub w own own') (hb : But (Wo own) w w') (ho : Lok s') (hst : ∀ j, Stb s' j) : Ll F w0 w' gt s' ∧ But (Fo F w0) w w' := by
  have hb2 : But (Fo F w0) w w' := hb.mono (fun b _ e => h b e)
  refine ⟨⟨⟨own', kl, fun b hbn => ?_⟩, ho, hst, hg.then hb2 (fun i hi e => by have := e.1; omega), fun b hbF => Nat.lt_of_lt_of_le (hl b hbF) hb.size⟩, hb2⟩
  rcases hs b hbn with e | e
  · exact h b e
  · exact ⟨Nat.le_trans hg.size e, fun e2 => by have := hl b e2; omega⟩
variable {t k : Int} {a : Bool}
theorem ll_new (w : World) : Calls Try.prog 9 #[] w fun e w' => ∃ gt, e = .returned (ptr gt) ∧ Ll (fun _ => False) w w' gt Ls.new := by
  refine (newl_any w).mono ?_
  rintro e w' ⟨rfl, h1, h2⟩
  exact ⟨_, rfl, ⟨⟨_, h1, fun b hb => ⟨(ownL_ge hb).1, fun h => h⟩⟩, Lok.new, fun j x r e => (nomatch e), h2, fun b hb => hb.elim⟩⟩
theorem ll_holds (h : Ll F w0 w gt s) (ht : i64 t) (hk : i64 k) : Calls Try.prog 18 #[ptr gt, .int .i64 t, .int .i64 k] w fun e w' => e = .returned (.int .i64 (s.hold t k)) ∧ w' = w := by
  obtain ⟨o, h1, h2⟩ := h.ex
  exact holds_any h1 h.ok ht hk
theorem ll_waits (h : Ll F w0 w gt s) (ht : i64 t) : Calls Try.prog 16 #[ptr gt, .int .i64 t] w fun e w' => e = .returned (.tuple #[.int .i64 (s.waitK t), .bool (s.wait t)]) ∧ Ll F w0 w' gt s ∧ Grow w w' := by
  obtain ⟨o, h1, h2⟩ := h.ex
  exact (waits_any h1 h.ok ht).mono (fun e w' k => ⟨k.1, h.then k.2, k.2⟩)
theorem ll_ask (h : Ll F w0 w gt s) (ht : i64 t) (hk : i64 k) (hs : s.has.length + s.q.length < 10000) : Calls Try.prog 14 #[ptr gt, .int .i64 t, .int .i64 k, .bool a] w fun e w' => e = .returned (.tuple #[.bool (s.got (t, k, a)), .int .i64 (s.askc (t, k, a))]) ∧ Ll F w0 w' gt (s.asked (t, k, a)) ∧ But (Fo F w0) w w' := by
  obtain ⟨o, h1, h2⟩ := h.ex
  cases hb : s.busy (t, k, a) with
  | true =>
    have hg : s.got (t, k, a) = false := by unfold Ls.got; rw [hb]; rfl
    have hc : s.askc (t, k, a) = 6 := by unfold Ls.askc; rw [hb]; rfl
    have ha : s.asked (t, k, a) = s := by unfold Ls.asked; rw [hb]; rfl
    rw [hg, hc, ha]
    refine (ask_busy (a := a) h1 h.ok ht hk ?_).mono (fun e w' k => ⟨k.1, h.then k.2, k.2.mono (fun _ _ h => h.elim)⟩)
    unfold Ls.busy at hb
    rcases Bool.or_eq_true_iff.1 hb with e | e
    · exact .inl e
    · exact .inr (by simpa using e)
  | false =>
    obtain ⟨hw, hh⟩ := busy_not hb
    have hc : s.askc (t, k, a) = 0 := by unfold Ls.askc; rw [hb]; rfl
    have ha : s.asked (t, k, a) = s.askR (t, k, a) := by unfold Ls.asked; rw [hb]; rfl
    have hok2 : Lok (s.ask (t, k, a)) := h.ok.ask ht hk hw (hold_zero h.ok hh)
    refine (ask_any (a := a) h1 h.ok ht hk hw hh hs).mono ?_
    rintro e w' ⟨G, s', own', rfl, hst, hsb, hl, ho, hsu, hbu⟩
    obtain ⟨rfl, hall⟩ := ask_det hok2 hw h.stb hst hsb
    rw [hc, ha, ← askR_hold ho hb]
    exact ⟨rfl, Ll.to h2 h.grow h.lt hl hsu hbu ho hall⟩
theorem asked_sum (s : Ls) (x : Wt) : (s.asked x).has.length + (s.asked x).q.length ≤ s.has.length + s.q.length + 1 := by
  unfold Ls.asked Ls.askR Ls.ask
  split
  · omega
  · split <;> simp <;> omega
/-- What Free leaves and tells. -/
def LfTo (F : Nat → Prop) (w0 w : World) (gt : Nat) (s : Ls) (t : Int) (e : Ending) (w' : World) : Prop := ∃ v G s', e = .returned v ∧ Fre s t G s' ∧ Nums w' v (srt (G.map (·.1))) ∧ Ll F w0 w' gt s' ∧ (∀ b, v.ownBlock = some b → w.heap.size ≤ b ∧ (b < w'.heap.size → Ll (fun j => F j ∨ j = b) w0 w' gt s')) ∧ But (Fo F w0) w w'
theorem ll_free (h : Ll F w0 w gt s) (ht : i64 t) (hs : s.has.length + s.q.length ≤ 10000) : Calls Try.prog 12 #[ptr gt, .int .i64 t] w (LfTo F w0 w gt s t) := by
  obtain ⟨o, h1, h2⟩ := h.ex
  refine (free_any h1 h.ok ht hs).mono ?_
  rintro e w' ⟨v, rfl, G0, s0, E, G, s', own', hv, hd, hp, ha, hl, hn, hbl, hsu, hbu⟩
  have hf := fre_of h.ok h.stb hv hd ha
  obtain ⟨k1, k2⟩ := Ll.to h2 h.grow h.lt hl hsu hbu hf.ok hf.stb
  refine ⟨v, _, s', rfl, hf, hn, k1, fun b hb => ⟨(hbl b hb).1, fun hlt => ⟨⟨own', hl, fun j hj => ?_⟩, hf.ok, hf.stb, k1.grow, fun j hj => ?_⟩⟩, k2⟩
  · have h3 := hsu j hj
    have h4 : w0.heap.size ≤ j ∧ ¬ F j := by
      rcases h3 with e | e
      · exact h2 j e
      · exact ⟨Nat.le_trans h.grow.size e, fun e2 => by have := h.lt j e2; omega⟩
    refine ⟨h4.1, fun e => e.elim h4.2 (fun e => ?_)⟩
    rw [e] at hj
    exact hj (hbl b hb).2
  · rcases hj with e | rfl
    · exact Nat.lt_of_lt_of_le (h.lt j e) k2.size
    · exact hlt
end
end Go.Proofs.Ytgldkckhliklhaa
