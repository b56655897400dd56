/- The device: what it holds, and how that lies in memory. -/
import Derived.Test.YtcikldklacgafaaOwnOps
import Derived.Test.YtcikldklacgafaaIntMaps
namespace Go.Proofs.Ytcikldklacgafaa
open Go.RowKit

/-- A write: its block, its bytes. -/
abbrev WrE := Nat × List Nat
def d0 : WrE := (0, [])
def wf256 (c : List Nat) : Prop := c.length = 256 ∧ ∀ z ∈ c, z < 256
structure Dev where
  st : List (List Nat)
  wr : List WrE
  wt : List Nat
  im : List (List (List Nat))
  cnt : Nat
  arm : Nat
  up : Bool
/-- Which writes of a block wait. -/
def wb (wr : List WrE) (wt : List Nat) (b : Nat) : List Nat := wt.filter fun i => (wr.getD i d0).1 == b
/-- How a block reads. -/
def Dev.now (s : Dev) (b : Nat) : List Nat := match (wb s.wr s.wt b).getLast? with | some i => (s.wr.getD i d0).2 | none => s.st.getD b []
structure Dev.ok (s : Dev) : Prop where
  n1 : 1 ≤ s.st.length
  nb : s.st.length ≤ 65536
  st : ∀ c ∈ s.st, wf256 c
  wr : ∀ e ∈ s.wr, e.1 < s.st.length ∧ wf256 e.2
  wt : s.wt.Pairwise (· < ·)
  wl : ∀ i ∈ s.wt, i < s.wr.length
  im : ∀ m ∈ s.im, m.length = s.st.length ∧ ∀ c ∈ m, wf256 c
def wcell (e : WrE) : List Value := .int .i64 (e.1 : Int) :: u8s e.2
def ints (l : List Nat) : List Value := l.map fun (i : Nat) => Value.int .i64 (i : Int)
theorem u8s_len (c : List Nat) : (u8s c).length = c.length := by simp [u8s]
theorem wcell_len {e : WrE} (h : wf256 e.2) : (wcell e).length = 257 := by simp [wcell, u8s, h.1]
theorem ints_len (l : List Nat) : (ints l).length = l.length := by simp [ints]
theorem ints_one (l : List Nat) : ∀ u ∈ ints l, u.oneCell' = true := by
  intro u hu; obtain ⟨z, _, rfl⟩ := List.mem_map.1 hu; rfl
theorem wcell_one (e : WrE) : ∀ u ∈ wcell e, u.oneCell' = true := by
  intro u hu
  rcases List.mem_cons.1 hu with rfl | hu
  · rfl
  · exact u8s_one _ u hu
theorem Dev.ok.now {s : Dev} (h : s.ok) {b : Nat} (hb : b < s.st.length) : wf256 (s.now b) := by
  unfold Dev.now
  cases hg : (wb s.wr s.wt b).getLast? with
  | none =>
    have : s.st.getD b [] ∈ s.st := by rw [List.getD_eq_getElem?_getD, List.getElem?_eq_getElem hb]; exact List.getElem_mem hb
    exact h.st _ this
  | some i =>
    have hm : i ∈ wb s.wr s.wt b := List.mem_of_getLast? hg
    have hw : i < s.wr.length := h.wl i (List.mem_filter.1 hm).1
    have : s.wr.getD i d0 ∈ s.wr := by rw [List.getD_eq_getElem?_getD, List.getElem?_eq_getElem hw]; exact List.getElem_mem hw
    exact (h.wr _ this).2
/-- The writes that wait, in the map. -/
structure WtM (w : World) (own : Owner) (bm : Nat) (wr : List WrE) (wt : List Nat) : Prop where
  ex : ∃ M, Mq Try.prog 3 w bm M ∧ (∀ p ∈ M, ∃ b : Nat, p.1 = .int .i64 (b : Int) ∧ b < 65536 ∧ wb wr wt b ≠ [] ∧ RowOf w (Is own (.row b)) 3 1 p.2 (wb wr wt b).length (ints (wb wr wt b))) ∧ ∀ b : Nat, wb wr wt b ≠ [] → ∃ v, ((.int .i64 (b : Int) : Value), v) ∈ M
abbrev PicE := Value × List (List Nat)
structure ImM (w : World) (own : Owner) (n : Nat) (vi : Value) (im : List (List (List Nat))) : Prop where
  ex : ∃ L : List PicE, L.map (·.2) = im ∧ RowOf w (Is own .imr) 50 1 vi L.length (L.map (·.1)) ∧ ∀ e ∈ L, RowOf w (Is own .pic) 62 256 e.1 n (e.2.flatMap u8s)
structure DvM (w : World) (own : Owner) (gd : Nat) (s : Dev) (gs : Nat) (vw : Value) (bm : Nat) (vi : Value) : Prop where
  top : Top w own
  tag : own gd = .dev
  blk : Blk w gd 55 [.slice (some ⟨gs, 0, none⟩) s.st.length s.st.length, vw, .map (some bm), vi, .int .i64 (s.cnt : Int), .int .i64 (s.arm : Int), .bool s.up]
  stt : own gs = .sto
  sto : Blk w gs 62 (s.st.flatMap u8s)
  wri : RowOf w (Is own .wri) 64 257 vw s.wr.length (s.wr.flatMap wcell)
  mat : own bm = .map
  map : WtM w own bm s.wr s.wt
  img : ImM w own s.st.length vi s.im
  ok : s.ok
def Dv (w : World) (own : Owner) (gd : Nat) (s : Dev) : Prop := ∃ gs vw bm vi, DvM w own gd s gs vw bm vi
section
variable {w w' : World} {own own' : Owner} {gd gs bm : Nat} {s s' : Dev} {vw vi vw' vi' : Value} {wr : List WrE} {wt : List Nat} {R : Nat → Prop}
theorem WtM.but (h : WtM w own bm wr wt) (k : But R w w') (hb : ¬ R bm) (hr : ∀ b j, own j = .row b → ¬ R j) (ho : ∀ b j, own j = .row b → own' j = .row b) : WtM w' own' bm wr wt := by
  obtain ⟨M, h1, h2, h3⟩ := h.ex
  refine ⟨M, h1.but k hb, fun p hp => ?_, h3⟩
  obtain ⟨b, e1, e2, e3, e4⟩ := h2 p hp
  exact ⟨b, e1, e2, e3, e4.but k (fun j hj => hr b j hj) (fun j hj => ho b j hj)⟩
theorem ImM.but {n : Nat} {im : List (List (List Nat))} (h : ImM w own n vi im) (k : But R w w') (hr : ∀ j, own j = .imr ∨ own j = .pic → ¬ R j) (ho : ∀ j, own j ≠ .none → own' j = own j) : ImM w' own' n vi im := by
  obtain ⟨L, h1, h2, h3⟩ := h.ex
  refine ⟨L, h1, h2.but k (fun j hj => hr j (.inl hj)) (fun j hj => ?_), fun e he => (h3 e he).but k (fun j hj => hr j (.inr hj)) (fun j hj => ?_)⟩
  · show own' j = .imr
    rw [ho j (by rw [show own j = _ from hj]; decide)]; exact hj
  · show own' j = .pic
    rw [ho j (by rw [show own j = _ from hj]; decide)]; exact hj
theorem DvM.but (h : DvM w own gd s gs vw bm vi) (k : But R w w') (hr : ∀ b, own b ≠ .none → ¬ R b) : DvM w' own gd s gs vw bm vi := by
  have hx : ∀ {t : Tag}, t ≠ .none → ∀ b, own b = t → ¬ R b := fun h1 b hb => hr b (by rw [hb]; exact h1)
  exact ⟨h.top.grow k.size, h.tag, h.blk.but k (hx (t := .dev) (by decide) gd h.tag), h.stt, h.sto.but k (hx (t := .sto) (by decide) gs h.stt), h.wri.but k (hx (by decide)) (fun _ h => h), h.mat,
    h.map.but k (hx (t := .map) (by decide) bm h.mat) (fun b => hx (t := .row b) (by simp)) (fun _ _ h => h), h.img.but k (fun j hj => hj.elim (hx (by decide) j) (hx (by decide) j)) (fun _ _ => rfl), h.ok⟩
theorem Dv.but (h : Dv w own gd s) (k : But R w w') (hr : ∀ b, own b ≠ .none → ¬ R b) : Dv w' own gd s := by
  obtain ⟨gs, vw, bm, vi, h⟩ := h
  exact ⟨gs, vw, bm, vi, h.but k hr⟩
theorem Dv.grow (h : Dv w own gd s) (k : Grow w w') : Dv w' own gd s := h.but k (fun _ _ h => h)
theorem Dv.top (h : Dv w own gd s) : Top w own := by obtain ⟨_, _, _, _, h⟩ := h; exact h.top
theorem Dv.ok (h : Dv w own gd s) : s.ok := by obtain ⟨_, _, _, _, h⟩ := h; exact h.ok
/-- What a call on the device leaves. -/
structure DvTo (w : World) (own : Owner) (gd : Nat) (s : Dev) (w' : World) : Prop where
  but : But (fun b => own b ≠ .none) w w'
  ex : ∃ own', Fresh w own own' ∧ Dv w' own' gd s
theorem DvTo.grow {w'' : World} (h : DvTo w own gd s w') (k : Grow w' w'') : DvTo w own gd s w'' := by
  obtain ⟨own', h1, h2⟩ := h.ex
  exact ⟨h.but.trans (k.mono (fun _ _ h => h.elim)), own', h1, h2.grow k⟩
/-- New memory ahead of it. -/
theorem DvTo.from {w0 : World} (h : DvTo w own gd s w') (k : Grow w0 w) : DvTo w0 own gd s w' := by
  obtain ⟨own', h1, h2⟩ := h.ex
  refine ⟨(k.mono (fun _ _ h => h.elim)).trans h.but, own', fun b hb => ?_, h2⟩
  have := h1 b hb
  have := k.size
  omega
theorem Dv.same (h : Dv w own gd s) (k : Grow w w') : DvTo w own gd s w' := ⟨k.mono (fun _ _ h => h.elim), own, Fresh.refl _ _, h.grow k⟩
/-- Numbers of the device turned. -/
theorem DvM.scal (h : DvM w own gd s gs vw bm vi) {c a : Nat} {u : Bool} (k : But (· = gd) w w') (hb : Blk w' gd 55 [.slice (some ⟨gs, 0, none⟩) s.st.length s.st.length, vw, .map (some bm), vi, .int .i64 (c : Int), .int .i64 (a : Int), .bool u]) : DvM w' own gd { s with cnt := c, arm := a, up := u } gs vw bm vi := by
  have hx : ∀ {t : Tag}, t ≠ .dev → ∀ b, own b = t → ¬ b = gd := fun h1 b hb e => h1 (by rw [← hb, e]; exact h.tag)
  exact ⟨h.top.grow k.size, h.tag, hb, h.stt, h.sto.but k (hx (t := .sto) (by decide) gs h.stt), h.wri.but k (hx (by decide)) (fun _ h => h), h.mat,
    h.map.but k (hx (t := .map) (by decide) bm h.mat) (fun b => hx (t := .row b) (by simp)) (fun _ _ h => h), h.img.but k (fun j hj => hj.elim (hx (by decide) j) (hx (by decide) j)) (fun _ _ => rfl), ⟨h.ok.n1, h.ok.nb, h.ok.st, h.ok.wr, h.ok.wt, h.ok.wl, h.ok.im⟩⟩
theorem DvM.scalTo (h : DvM w own gd s gs vw bm vi) {c a : Nat} {u : Bool} (k : But (· = gd) w w') (hb : Blk w' gd 55 [.slice (some ⟨gs, 0, none⟩) s.st.length s.st.length, vw, .map (some bm), vi, .int .i64 (c : Int), .int .i64 (a : Int), .bool u]) : DvTo w own gd { s with cnt := c, arm := a, up := u } w' :=
  ⟨k.mono (fun b _ e => by rw [e, h.tag]; decide), own, Fresh.refl _ _, gs, vw, bm, vi, h.scal k hb⟩
/-- What is stored turned. -/
theorem DvM.store (h : DvM w own gd s gs vw bm vi) {st' : List (List Nat)} (k : But (· = gs) w w') (hb : Blk w' gs 62 (st'.flatMap u8s)) (hl : st'.length = s.st.length) (hw : ∀ c ∈ st', wf256 c) : DvM w' own gd { s with st := st' } gs vw bm vi := by
  have hx : ∀ {t : Tag}, t ≠ .sto → ∀ b, own b = t → ¬ b = gs := fun h1 b hb e => h1 (by rw [← hb, e]; exact h.stt)
  refine ⟨h.top.grow k.size, h.tag, ?_, h.stt, hb, h.wri.but k (hx (by decide)) (fun _ h => h), h.mat,
    h.map.but k (hx (t := .map) (by decide) bm h.mat) (fun b => hx (t := .row b) (by simp)) (fun _ _ h => h), ?_, ⟨by rw [hl]; exact h.ok.n1, by rw [hl]; exact h.ok.nb, hw, fun e he => by rw [hl]; exact h.ok.wr e he, h.ok.wt, h.ok.wl, fun m hm => by rw [hl]; exact h.ok.im m hm⟩⟩
  · have := h.blk.but k (hx (t := .dev) (by decide) gd h.tag)
    show Blk w' gd _ [.slice (some ⟨gs, 0, none⟩) st'.length st'.length, vw, .map (some bm), vi, .int .i64 (s.cnt : Int), .int .i64 (s.arm : Int), .bool s.up]
    rw [hl]; exact this
  · have := h.img.but k (fun j hj => hj.elim (hx (by decide) j) (hx (by decide) j)) (fun _ _ => rfl) (own' := own)
    show ImM w' own st'.length vi s.im
    rw [hl]; exact this
/-- The map turned. -/
theorem DvM.maps (h : DvM w own gd s gs vw bm vi) {wt' : List Nat} (k : But (· = bm) w w') (hm : WtM w' own bm s.wr wt') (h1 : wt'.Pairwise (· < ·)) (h2 : ∀ i ∈ wt', i < s.wr.length) : DvM w' own gd { s with wt := wt' } gs vw bm vi := by
  have hx : ∀ {t : Tag}, t ≠ .map → ∀ b, own b = t → ¬ b = bm := fun h1 b hb e => h1 (by rw [← hb, e]; exact h.mat)
  exact ⟨h.top.grow k.size, h.tag, h.blk.but k (hx (t := .dev) (by decide) gd h.tag), h.stt, h.sto.but k (hx (t := .sto) (by decide) gs h.stt), h.wri.but k (hx (by decide)) (fun _ h => h), h.mat, hm,
    h.img.but k (fun j hj => hj.elim (hx (by decide) j) (hx (by decide) j)) (fun _ _ => rfl), ⟨h.ok.n1, h.ok.nb, h.ok.st, h.ok.wr, h1, h2, h.ok.im⟩⟩
end
end Go.Proofs.Ytcikldklacgafaa
