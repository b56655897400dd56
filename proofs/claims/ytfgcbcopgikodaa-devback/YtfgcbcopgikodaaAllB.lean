/- DvMem, DvLeaf, DvReads, DvRead, DvWrite, DvWrote, DvRange, DvFlush, DvNew, DvSort, DvWaits, DvWaiting, DvOn, DvFull, DvAwake, DvLay, DvPoke, DvBack. -/
import Derived.Test.YtfgcbcopgikodaaAllA
import Derived.Deep.Cut
import Derived.Laws.MakeOwn
import Derived.Shelf.SortM.Plain
import Derived.Shelf.SortM.SortNone
import Derived.Laws.BitsAllLaws
/- The device: what it holds, and how that lies in memory. -/
namespace Go.Proofs.Ytfgcbcopgikodaa
open Go.RowKit

/-- A write: its block, its bytes. -/
abbrev WrE := Nat × List Nat
def d0 : WrE := (0, [])
def wf256 (c : List Nat) : Prop := c.length = 256 ∧ ∀ z ∈ c, z < 256
structure Dev where
  st : List (List Nat)
  wr : List WrE
  wt : List Nat
  im : List (List (List Nat))
  cnt : Nat
  arm : Nat
  up : Bool
/-- Which writes of a block wait. -/
def wb (wr : List WrE) (wt : List Nat) (b : Nat) : List Nat := wt.filter fun i => (wr.getD i d0).1 == b
/-- How a block reads. -/
def Dev.now (s : Dev) (b : Nat) : List Nat := match (wb s.wr s.wt b).getLast? with | some i => (s.wr.getD i d0).2 | none => s.st.getD b []
structure Dev.ok (s : Dev) : Prop where
  n1 : 1 ≤ s.st.length
  nb : s.st.length ≤ 65536
  st : ∀ c ∈ s.st, wf256 c
  wr : ∀ e ∈ s.wr, e.1 < s.st.length ∧ wf256 e.2
  wt : s.wt.Pairwise (· < ·)
  wl : ∀ i ∈ s.wt, i < s.wr.length
  im : ∀ m ∈ s.im, m.length = s.st.length ∧ ∀ c ∈ m, wf256 c
def wcell (e : WrE) : List Value := .int .i64 (e.1 : Int) :: u8s e.2
def ints (l : List Nat) : List Value := l.map fun (i : Nat) => Value.int .i64 (i : Int)
theorem u8s_len (c : List Nat) : (u8s c).length = c.length := by simp [u8s]
theorem wcell_len {e : WrE} (h : wf256 e.2) : (wcell e).length = 257 := by simp [wcell, u8s, h.1]
theorem ints_len (l : List Nat) : (ints l).length = l.length := by simp [ints]
theorem ints_one (l : List Nat) : ∀ u ∈ ints l, u.oneCell' = true := by
  intro u hu; obtain ⟨z, _, rfl⟩ := List.mem_map.1 hu; rfl
theorem wcell_one (e : WrE) : ∀ u ∈ wcell e, u.oneCell' = true := by
  intro u hu
  rcases List.mem_cons.1 hu with rfl | hu
  · rfl
  · exact u8s_one _ u hu
theorem Dev.ok.now {s : Dev} (h : s.ok) {b : Nat} (hb : b < s.st.length) : wf256 (s.now b) := by
  unfold Dev.now
  cases hg : (wb s.wr s.wt b).getLast? with
  | none =>
    have : s.st.getD b [] ∈ s.st := by rw [List.getD_eq_getElem?_getD, List.getElem?_eq_getElem hb]; exact List.getElem_mem hb
    exact h.st _ this
  | some i =>
    have hm : i ∈ wb s.wr s.wt b := List.mem_of_getLast? hg
    have hw : i < s.wr.length := h.wl i (List.mem_filter.1 hm).1
    have : s.wr.getD i d0 ∈ s.wr := by rw [List.getD_eq_getElem?_getD, List.getElem?_eq_getElem hw]; exact List.getElem_mem hw
    exact (h.wr _ this).2
/-- The writes that wait, in the map. -/
structure WtM (w : World) (own : Owner) (bm : Nat) (wr : List WrE) (wt : List Nat) : Prop where
  ex : ∃ M, Mq Try.prog 3 w bm M ∧ (∀ p ∈ M, ∃ b : Nat, p.1 = .int .i64 (b : Int) ∧ b < 65536 ∧ wb wr wt b ≠ [] ∧ RowOf w (Is own (.row b)) 3 1 p.2 (wb wr wt b).length (ints (wb wr wt b))) ∧ ∀ b : Nat, wb wr wt b ≠ [] → ∃ v, ((.int .i64 (b : Int) : Value), v) ∈ M
abbrev PicE := Value × List (List Nat)
structure ImM (w : World) (own : Owner) (n : Nat) (vi : Value) (im : List (List (List Nat))) : Prop where
  ex : ∃ L : List PicE, L.map (·.2) = im ∧ RowOf w (Is own .imr) 74 1 vi L.length (L.map (·.1)) ∧ ∀ e ∈ L, RowOf w (Is own .pic) 81 256 e.1 n (e.2.flatMap u8s)
structure DvM (w : World) (own : Owner) (gd : Nat) (s : Dev) (gs : Nat) (vw : Value) (bm : Nat) (vi : Value) : Prop where
  top : Top w own
  tag : own gd = .dev
  blk : Blk w gd 79 [.slice (some ⟨gs, 0, none⟩) s.st.length s.st.length, vw, .map (some bm), vi, .int .i64 (s.cnt : Int), .int .i64 (s.arm : Int), .bool s.up]
  stt : own gs = .sto
  sto : Blk w gs 81 (s.st.flatMap u8s)
  wri : RowOf w (Is own .wri) 83 257 vw s.wr.length (s.wr.flatMap wcell)
  mat : own bm = .map
  map : WtM w own bm s.wr s.wt
  img : ImM w own s.st.length vi s.im
  ok : s.ok
def Dv (w : World) (own : Owner) (gd : Nat) (s : Dev) : Prop := ∃ gs vw bm vi, DvM w own gd s gs vw bm vi
section
variable {w w' : World} {own own' : Owner} {gd gs bm : Nat} {s s' : Dev} {vw vi vw' vi' : Value} {wr : List WrE} {wt : List Nat} {R : Nat → Prop}
theorem WtM.but (h : WtM w own bm wr wt) (k : But R w w') (hb : ¬ R bm) (hr : ∀ b j, own j = .row b → ¬ R j) (ho : ∀ b j, own j = .row b → own' j = .row b) : WtM w' own' bm wr wt := by
  obtain ⟨M, h1, h2, h3⟩ := h.ex
  refine ⟨M, h1.but k hb, fun p hp => ?_, h3⟩
  obtain ⟨b, e1, e2, e3, e4⟩ := h2 p hp
  exact ⟨b, e1, e2, e3, e4.but k (fun j hj => hr b j hj) (fun j hj => ho b j hj)⟩
theorem ImM.but {n : Nat} {im : List (List (List Nat))} (h : ImM w own n vi im) (k : But R w w') (hr : ∀ j, own j = .imr ∨ own j = .pic → ¬ R j) (ho : ∀ j, own j ≠ .none → own' j = own j) : ImM w' own' n vi im := by
  obtain ⟨L, h1, h2, h3⟩ := h.ex
  refine ⟨L, h1, h2.but k (fun j hj => hr j (.inl hj)) (fun j hj => ?_), fun e he => (h3 e he).but k (fun j hj => hr j (.inr hj)) (fun j hj => ?_)⟩
  · show own' j = .imr
    rw [ho j (by rw [show own j = _ from hj]; decide)]; exact hj
  · show own' j = .pic
    rw [ho j (by rw [show own j = _ from hj]; decide)]; exact hj
theorem DvM.but (h : DvM w own gd s gs vw bm vi) (k : But R w w') (hr : ∀ b, own b ≠ .none → ¬ R b) : DvM w' own gd s gs vw bm vi := by
  have hx : ∀ {t : Tag}, t ≠ .none → ∀ b, own b = t → ¬ R b := fun h1 b hb => hr b (by rw [hb]; exact h1)
  exact ⟨h.top.grow k.size, h.tag, h.blk.but k (hx (t := .dev) (by decide) gd h.tag), h.stt, h.sto.but k (hx (t := .sto) (by decide) gs h.stt), h.wri.but k (hx (by decide)) (fun _ h => h), h.mat,
    h.map.but k (hx (t := .map) (by decide) bm h.mat) (fun b => hx (t := .row b) (by simp)) (fun _ _ h => h), h.img.but k (fun j hj => hj.elim (hx (by decide) j) (hx (by decide) j)) (fun _ _ => rfl), h.ok⟩
theorem Dv.but (h : Dv w own gd s) (k : But R w w') (hr : ∀ b, own b ≠ .none → ¬ R b) : Dv w' own gd s := by
  obtain ⟨gs, vw, bm, vi, h⟩ := h
  exact ⟨gs, vw, bm, vi, h.but k hr⟩
theorem Dv.grow (h : Dv w own gd s) (k : Grow w w') : Dv w' own gd s := h.but k (fun _ _ h => h)
theorem Dv.top (h : Dv w own gd s) : Top w own := by obtain ⟨_, _, _, _, h⟩ := h; exact h.top
theorem Dv.ok (h : Dv w own gd s) : s.ok := by obtain ⟨_, _, _, _, h⟩ := h; exact h.ok
/-- What a call on the device leaves. -/
structure DvTo (w : World) (own : Owner) (gd : Nat) (s : Dev) (w' : World) : Prop where
  but : But (fun b => own b ≠ .none) w w'
  ex : ∃ own', Fresh w own own' ∧ Dv w' own' gd s
theorem DvTo.grow {w'' : World} (h : DvTo w own gd s w') (k : Grow w' w'') : DvTo w own gd s w'' := by
  obtain ⟨own', h1, h2⟩ := h.ex
  exact ⟨h.but.trans (k.mono (fun _ _ h => h.elim)), own', h1, h2.grow k⟩
/-- New memory ahead of it. -/
theorem DvTo.from {w0 : World} (h : DvTo w own gd s w') (k : Grow w0 w) : DvTo w0 own gd s w' := by
  obtain ⟨own', h1, h2⟩ := h.ex
  refine ⟨(k.mono (fun _ _ h => h.elim)).trans h.but, own', fun b hb => ?_, h2⟩
  have := h1 b hb
  have := k.size
  omega
theorem Dv.same (h : Dv w own gd s) (k : Grow w w') : DvTo w own gd s w' := ⟨k.mono (fun _ _ h => h.elim), own, Fresh.refl _ _, h.grow k⟩
/-- Numbers of the device turned. -/
theorem DvM.scal (h : DvM w own gd s gs vw bm vi) {c a : Nat} {u : Bool} (k : But (· = gd) w w') (hb : Blk w' gd 79 [.slice (some ⟨gs, 0, none⟩) s.st.length s.st.length, vw, .map (some bm), vi, .int .i64 (c : Int), .int .i64 (a : Int), .bool u]) : DvM w' own gd { s with cnt := c, arm := a, up := u } gs vw bm vi := by
  have hx : ∀ {t : Tag}, t ≠ .dev → ∀ b, own b = t → ¬ b = gd := fun h1 b hb e => h1 (by rw [← hb, e]; exact h.tag)
  exact ⟨h.top.grow k.size, h.tag, hb, h.stt, h.sto.but k (hx (t := .sto) (by decide) gs h.stt), h.wri.but k (hx (by decide)) (fun _ h => h), h.mat,
    h.map.but k (hx (t := .map) (by decide) bm h.mat) (fun b => hx (t := .row b) (by simp)) (fun _ _ h => h), h.img.but k (fun j hj => hj.elim (hx (by decide) j) (hx (by decide) j)) (fun _ _ => rfl), ⟨h.ok.n1, h.ok.nb, h.ok.st, h.ok.wr, h.ok.wt, h.ok.wl, h.ok.im⟩⟩
theorem DvM.scalTo (h : DvM w own gd s gs vw bm vi) {c a : Nat} {u : Bool} (k : But (· = gd) w w') (hb : Blk w' gd 79 [.slice (some ⟨gs, 0, none⟩) s.st.length s.st.length, vw, .map (some bm), vi, .int .i64 (c : Int), .int .i64 (a : Int), .bool u]) : DvTo w own gd { s with cnt := c, arm := a, up := u } w' :=
  ⟨k.mono (fun b _ e => by rw [e, h.tag]; decide), own, Fresh.refl _ _, gs, vw, bm, vi, h.scal k hb⟩
/-- What is stored turned. -/
theorem DvM.store (h : DvM w own gd s gs vw bm vi) {st' : List (List Nat)} (k : But (· = gs) w w') (hb : Blk w' gs 81 (st'.flatMap u8s)) (hl : st'.length = s.st.length) (hw : ∀ c ∈ st', wf256 c) : DvM w' own gd { s with st := st' } gs vw bm vi := by
  have hx : ∀ {t : Tag}, t ≠ .sto → ∀ b, own b = t → ¬ b = gs := fun h1 b hb e => h1 (by rw [← hb, e]; exact h.stt)
  refine ⟨h.top.grow k.size, h.tag, ?_, h.stt, hb, h.wri.but k (hx (by decide)) (fun _ h => h), h.mat,
    h.map.but k (hx (t := .map) (by decide) bm h.mat) (fun b => hx (t := .row b) (by simp)) (fun _ _ h => h), ?_, ⟨by rw [hl]; exact h.ok.n1, by rw [hl]; exact h.ok.nb, hw, fun e he => by rw [hl]; exact h.ok.wr e he, h.ok.wt, h.ok.wl, fun m hm => by rw [hl]; exact h.ok.im m hm⟩⟩
  · have := h.blk.but k (hx (t := .dev) (by decide) gd h.tag)
    show Blk w' gd _ [.slice (some ⟨gs, 0, none⟩) st'.length st'.length, vw, .map (some bm), vi, .int .i64 (s.cnt : Int), .int .i64 (s.arm : Int), .bool s.up]
    rw [hl]; exact this
  · have := h.img.but k (fun j hj => hj.elim (hx (by decide) j) (hx (by decide) j)) (fun _ _ => rfl) (own' := own)
    show ImM w' own st'.length vi s.im
    rw [hl]; exact this
/-- The map turned. -/
theorem DvM.maps (h : DvM w own gd s gs vw bm vi) {wt' : List Nat} (k : But (· = bm) w w') (hm : WtM w' own bm s.wr wt') (h1 : wt'.Pairwise (· < ·)) (h2 : ∀ i ∈ wt', i < s.wr.length) : DvM w' own gd { s with wt := wt' } gs vw bm vi := by
  have hx : ∀ {t : Tag}, t ≠ .map → ∀ b, own b = t → ¬ b = bm := fun h1 b hb e => h1 (by rw [← hb, e]; exact h.mat)
  exact ⟨h.top.grow k.size, h.tag, h.blk.but k (hx (t := .dev) (by decide) gd h.tag), h.stt, h.sto.but k (hx (t := .sto) (by decide) gs h.stt), h.wri.but k (hx (by decide)) (fun _ h => h), h.mat, hm,
    h.img.but k (fun j hj => hj.elim (hx (by decide) j) (hx (by decide) j)) (fun _ _ => rfl), ⟨h.ok.n1, h.ok.nb, h.ok.st, h.ok.wr, h1, h2, h.ok.im⟩⟩
end
end Go.Proofs.Ytfgcbcopgikodaa
/- The device's short functions. -/
namespace Go.Proofs.Ytfgcbcopgikodaa
open Go.RowKit

theorem wrap64 (x : Int) (h1 : -9223372036854775808 ≤ x) (h2 : x ≤ 9223372036854775807) : IntKind.i64.wrap x = x := by
  simp [IntKind.wrap, IntKind.bits, IntKind.signed]; omega
theorem has_any {w : World} {own : Owner} {gd : Nat} {s : Dev} (h : Dv w own gd s) (x : Int) :
    Calls Try.prog 52 #[.pointer (some ⟨gd, 0, none⟩), .int .i64 x] w fun e w' => e = .returned (.bool (decide (0 ≤ x ∧ x < (s.st.length : Int)))) ∧ w' = w := by
  obtain ⟨gs, vw, bm, vi, h⟩ := h
  have c0 : w.cell? ⟨gd, 0, none⟩ = some (.slice (some ⟨gs, 0, none⟩) s.st.length s.st.length) := h.blk.cell 0
  clear h
  generalize s.st.length = n at *
  rcases (by omega : x < 0 ∨ (0 ≤ x ∧ x < (n : Int)) ∨ (0 ≤ x ∧ ¬ x < (n : Int))) with h1 | ⟨h1, h2⟩ | ⟨h1, h2⟩
  · have h3 : ¬ (0 ≤ x) := by omega
    go_enter Try.func52, Try.ntmps52
    go_wp2
    go_ret
    simp; omega
  · go_enter Try.func52, Try.ntmps52
    go_wp2
    go_ret
    simp [h1, h2]
  · go_enter Try.func52, Try.ntmps52
    go_wp2
    go_ret
    simp [h2]
/-- What an access leaves. -/
def Dev.acc (s : Dev) : Dev := { s with cnt := s.cnt + 1, arm := s.arm - 1, up := !(s.arm == 1) }
theorem access_any {w : World} {own : Owner} {gd : Nat} {s : Dev} (h : Dv w own gd s) (hu : s.up = true) (hc : s.cnt < 4611686018427387904) (ha : s.arm ≤ 9223372036854775807) :
    Calls Try.prog 50 #[.pointer (some ⟨gd, 0, none⟩)] w fun e w' => e = .returned (.bool (!(s.arm == 1))) ∧ DvTo w own gd s.acc w' := by
  obtain ⟨gs, vw, bm, vi, h⟩ := h
  have HH := Hid.mk' h
  have hb := h.blk
  rw [hu] at hb
  obtain ⟨V0, hV0⟩ : ∃ V, V = Value.slice (some ⟨gs, 0, none⟩) s.st.length s.st.length := ⟨_, rfl⟩
  rw [← hV0] at hb
  have HV := Hid.mk' hV0
  have HB := Hid.mk' hb
  have HU := Hid.mk' hu
  have c4 : w.cell? ⟨gd, 4, none⟩ = some (.int .i64 (s.cnt : Int)) := hb.cell 4
  have f4 : w.frozen? ⟨gd, 4, none⟩ = false := hb.free 4
  have f5 : w.frozen? ⟨gd, 5, none⟩ = false := hb.free 5
  have f6 : w.frozen? ⟨gd, 6, none⟩ = false := hb.free 6
  have c5 : w.cell? ⟨gd, 5, none⟩ = some (.int .i64 (s.arm : Int)) := hb.cell 5
  have c6 : w.cell? ⟨gd, 6, none⟩ = some (.bool true) := hb.cell 6
  have HFIN : Hid (∀ w' : World, ∀ c a : Nat, ∀ u : Bool, But (· = gd) w w' → Blk w' gd 79 [V0, vw, .map (some bm), vi, .int .i64 (c : Int), .int .i64 (a : Int), .bool u] → c = s.cnt + 1 → a = s.arm - 1 → u = (!(s.arm == 1)) → DvTo w own gd s.acc w') := fun w' c a u k hb e1 e2 e3 => by
    rw [HV.out] at hb
    subst e1 e2 e3
    exact HH.out.scalTo k hb
  have hcnt : ((s.cnt : Int) + 1) ≤ 4611686018427387904 := by omega
  have HBL : Hid (Blk (w.setCell ⟨gd, 4, none⟩ (.int .i64 ((s.cnt : Int) + 1))) gd 79 [V0, vw, .map (some bm), vi, .int .i64 ((s.cnt + 1 : Nat) : Int), .int .i64 (s.arm : Int), .bool true]) := hb.set 4 (.int .i64 ((s.cnt : Int) + 1))
  have HBT := Hid.mk' (But.set1 w gd 4 (.int .i64 ((s.cnt : Int) + 1)))
  clear h hb hV0 hu
  by_cases h0 : s.arm = 0
  · have e1 : ((s.arm : Int) == 0) = true := by simp [h0]
    have HA := Hid.mk' h0
    clear h0
    go_enter Try.func50, Try.ntmps50
    go_wp2
    go_ret
    have h0 := HA.out
    refine ⟨by simp [h0], HFIN.out _ (s.cnt + 1) s.arm true HBT.out HBL.out rfl (by omega) (by simp [h0])⟩
  · have e1 : ((s.arm : Int) == 0) = false := by
      have : ¬ ((s.arm : Int) = 0) := by omega
      simpa using this
    obtain ⟨m, hm⟩ : ∃ m, s.arm = m + 1 := ⟨s.arm - 1, by omega⟩
    have hmi : (s.arm : Int) - 1 = (m : Int) := by omega
    have hmi2 : IntKind.i64.wrap ((s.arm : Int) - 1) = (m : Int) := by rw [hmi]; exact wrap64 _ (by omega) (by omega)
    have HB2 : Hid (Blk ((w.setCell ⟨gd, 4, none⟩ (.int .i64 ((s.cnt : Int) + 1))).setCell ⟨gd, 5, none⟩ (.int .i64 (m : Int))) gd 79 [V0, vw, .map (some bm), vi, .int .i64 ((s.cnt + 1 : Nat) : Int), .int .i64 (m : Int), .bool true]) := HBL.out.set 5 (.int .i64 (m : Int))
    have HT2 := Hid.mk' (HBT.out.trans (But.set1 (w.setCell ⟨gd, 4, none⟩ (.int .i64 ((s.cnt : Int) + 1))) gd 5 (.int .i64 (m : Int))))
    by_cases h1 : m = 0
    · have e2 : ((m : Int) == 0) = true := by simp [h1]
      have HB3 : Hid (Blk (((w.setCell ⟨gd, 4, none⟩ (.int .i64 ((s.cnt : Int) + 1))).setCell ⟨gd, 5, none⟩ (.int .i64 (m : Int))).setCell ⟨gd, 6, none⟩ (.bool false)) gd 79 [V0, vw, .map (some bm), vi, .int .i64 ((s.cnt + 1 : Nat) : Int), .int .i64 (m : Int), .bool false]) := HB2.out.set 6 (.bool false)
      have HT3 := Hid.mk' (HT2.out.trans (But.set1 _ gd 6 (.bool false)))
      have HM := Hid.mk' hm
      have HM1 := Hid.mk' h1
      clear h0 h1 hm hmi
      go_enter Try.func50, Try.ntmps50
      go_wp2
      go_ret
      have h1 := HM.out
      have h2 := HM1.out
      refine ⟨by simp [h1, h2], HFIN.out _ (s.cnt + 1) m false HT3.out HB3.out rfl (by omega) (by simp [h1, h2])⟩
    · have e2 : ((m : Int) == 0) = false := by
        have : ¬ ((m : Int) = 0) := by omega
        simpa using this
      have HM := Hid.mk' hm
      have HM1 := Hid.mk' h1
      clear h0 h1 hm hmi
      go_enter Try.func50, Try.ntmps50
      go_wp2
      go_ret
      have h1 := HM.out
      have h2 := HM1.out
      refine ⟨by simp [h1, h2], HFIN.out _ (s.cnt + 1) m true HT2.out HB2.out rfl (by omega) (by simp [h1, h2])⟩
theorem blocks_any {w : World} {own : Owner} {gd : Nat} {s : Dev} (h : Dv w own gd s) : Calls Try.prog 18 #[.pointer (some ⟨gd, 0, none⟩)] w fun e w' => e = .returned (.int .i64 (s.st.length : Int)) ∧ w' = w := by
  obtain ⟨gs, vw, bm, vi, h⟩ := h
  have c0 : w.cell? ⟨gd, 0, none⟩ = some (.slice (some ⟨gs, 0, none⟩) s.st.length s.st.length) := h.blk.cell 0
  clear h
  generalize s.st.length = n at *
  go_enter Try.func18, Try.ntmps18
  go_wp2
  go_ret
  exact ⟨rfl, rfl⟩
theorem count_any {w : World} {own : Owner} {gd : Nat} {s : Dev} (h : Dv w own gd s) : Calls Try.prog 28 #[.pointer (some ⟨gd, 0, none⟩)] w fun e w' => e = .returned (.int .i64 (s.cnt : Int)) ∧ w' = w := by
  obtain ⟨gs, vw, bm, vi, h⟩ := h
  have c0 : w.cell? ⟨gd, 4, none⟩ = some (.int .i64 (s.cnt : Int)) := h.blk.cell 4
  clear h
  go_enter Try.func28, Try.ntmps28
  go_wp2
  go_ret
  exact ⟨rfl, rfl⟩
theorem up_any {w : World} {own : Owner} {gd : Nat} {s : Dev} (h : Dv w own gd s) : Calls Try.prog 45 #[.pointer (some ⟨gd, 0, none⟩)] w fun e w' => e = .returned (.bool s.up) ∧ w' = w := by
  obtain ⟨gs, vw, bm, vi, h⟩ := h
  have c0 : w.cell? ⟨gd, 6, none⟩ = some (.bool s.up) := h.blk.cell 6
  clear h
  go_enter Try.func45, Try.ntmps45
  go_wp2
  go_ret
  exact ⟨rfl, rfl⟩
theorem crash_any {w : World} {own : Owner} {gd : Nat} {s : Dev} (h : Dv w own gd s) : Calls Try.prog 20 #[.pointer (some ⟨gd, 0, none⟩)] w fun e w' => e = .returned (.tuple #[]) ∧ DvTo w own gd { s with arm := 0, up := false } w' := by
  obtain ⟨gs, vw, bm, vi, h⟩ := h
  have HH := Hid.mk' h
  have hb := h.blk
  have f5 : w.frozen? ⟨gd, 5, none⟩ = false := hb.free 5
  have f6 : w.frozen? ⟨gd, 6, none⟩ = false := hb.free 6
  have c5 : w.cell? ⟨gd, 5, none⟩ = some (.int .i64 (s.arm : Int)) := hb.cell 5
  have c6 : w.cell? ⟨gd, 6, none⟩ = some (.bool s.up) := hb.cell 6
  have HFIN : Hid (DvTo w own gd { s with arm := 0, up := false } ((w.setCell ⟨gd, 6, none⟩ (.bool false)).setCell ⟨gd, 5, none⟩ (.int .i64 0))) := by
    have h1 := (hb.set 6 (.bool false)).set 5 (.int .i64 0)
    exact h.scalTo ((But.set1 _ _ _ _).trans (But.set1 _ _ _ _)) h1
  clear h hb
  go_enter Try.func20, Try.ntmps20
  go_wp2
  go_end0
  exact ⟨rfl, HFIN.out⟩
theorem arm_any {w : World} {own : Owner} {gd : Nat} {s : Dev} (h : Dv w own gd s) (x : Int) : Calls Try.prog 16 #[.pointer (some ⟨gd, 0, none⟩), .int .i64 x] w fun e w' => e = .returned (.tuple #[]) ∧ DvTo w own gd { s with arm := x.toNat } w' := by
  obtain ⟨gs, vw, bm, vi, h⟩ := h
  have hb := h.blk
  have f5 : w.frozen? ⟨gd, 5, none⟩ = false := hb.free 5
  have c5 : w.cell? ⟨gd, 5, none⟩ = some (.int .i64 (s.arm : Int)) := hb.cell 5
  have HFIN : Hid (∀ y : Int, y = (x.toNat : Int) → DvTo w own gd { s with arm := x.toNat } (w.setCell ⟨gd, 5, none⟩ (.int .i64 y))) := fun y hy => by
    have h1 := hb.set 5 (.int .i64 y)
    rw [hy] at h1 ⊢
    exact h.scalTo (But.set1 _ _ _ _) h1
  clear h hb
  by_cases hx : x < 0
  · have hx2 : ¬ (0 ≤ x) := by omega
    go_enter Try.func16, Try.ntmps16
    go_wp2
    go_end0
    exact ⟨rfl, HFIN.out _ (by omega)⟩
  · have hx2 : 0 ≤ x := by omega
    go_enter Try.func16, Try.ntmps16
    go_wp2
    go_end0
    exact ⟨rfl, HFIN.out _ (by omega)⟩
theorem spend_any {w : World} {own : Owner} {gd : Nat} {s : Dev} (h : Dv w own gd s) (hc : s.cnt < 4611686018427387904) (ha : s.arm ≤ 9223372036854775807) :
    Calls Try.prog 34 #[.pointer (some ⟨gd, 0, none⟩)] w fun e w' => e = .returned (.bool (s.up && !(s.arm == 1))) ∧ DvTo w own gd (if s.up then s.acc else s) w' := by
  have HD := Hid.mk' h
  have HAC := Hid.mk' (fun hu => access_any h hu hc ha)
  obtain ⟨gs, vw, bm, vi, h⟩ := h
  have c6 : w.cell? ⟨gd, 6, none⟩ = some (.bool s.up) := h.blk.cell 6
  clear h
  cases hu : s.up with
  | true =>
    rw [hu] at c6
    have HA2 := Hid.mk' (HAC.out hu)
    clear hu HAC
    generalize (s.arm == 1) = q at *
    go_enter Try.func34, Try.ntmps34
    go_wp2_with fail
    refine Calls.mono HA2.out ?_
    rintro e w' ⟨rfl, hto⟩
    have HTO := Hid.mk' hto
    clear hto
    go_wp2
    go_ret
    exact ⟨by simp, HTO.out⟩
  | false =>
    rw [hu] at c6
    clear HAC hu
    go_enter Try.func34, Try.ntmps34
    go_wp2
    go_ret
    exact ⟨by simp, by simpa using HD.out.same (But.refl _ _)⟩
end Go.Proofs.Ytfgcbcopgikodaa
/- How a block reads. -/
namespace Go.Proofs.Ytfgcbcopgikodaa
open Go.RowKit

theorem wpList_run {ops : Array Oper} {rest : List Oper} {o : Oper} {a : Act} {w w' : World} {Q : Exit → Act → World → Prop} {v : Value} (hgd : o.guard = none) (hr : (execOp a.eval o).run Try.prog w = .ok (.value v) w') (h : wpList Try.prog ops Q rest (a.put o.dst v) w') : wpList Try.prog ops Q (o :: rest) a w :=
  wpList_plain hgd fun _ hK => by
    unfold Oper.wp
    rw [hr]
    exact hK _ _ h
/-- Cells are stored into a block, as the turn of a chain. -/
theorem turn_cells {w : World} {o : Oper} {ρ : Operand → Value} {K' : Value → World → Prop} {ty t : TypeId} {x y : Operand} (ho : o.op = .store ty x y) {g off : Nat} {A old B cs : List Value} (hx : ρ x = .pointer (some ⟨g, off, none⟩)) (hy : ρ y = .agg cs.toArray) (hi : (Try.prog.info? ty).map (·.size) = some cs.length) (h1 : ∀ v ∈ cs, v.oneCell' = true) (hb : Blk w g t (A ++ old ++ B)) (hA : A.length = off) (hold : old.length = cs.length)
    (hk : ∀ w', Blk w' g t (A ++ cs ++ B) → But (· = g) w w' → K' undef w') : ∃ v' w', ((execOp ρ o).run Try.prog w = .ok (.value v') w' ∨ ((execOp ρ o).run Try.prog w = .ok .skip w' ∧ v' = undef)) ∧ K' v' w' := by
  obtain ⟨w', hr, hb2, hb3⟩ := run_storeVar_at w g off t ty A old B cs hb hA hold hi h1
  refine ⟨undef, w', .inr ⟨?_, rfl⟩, hk w' hb2 hb3⟩
  unfold execOp
  simp only [ho, hx, hy, Instr.storeAt, Instr.sureAddr, Sem.run_bind, Sem.run_pure, Result.andThen_ok, hr]
theorem RowOf.le {w : World} {Fr : Nat → Prop} {e s n : Nat} {v : Value} {xs : List Value} (h : RowOf w Fr e s v n xs) : n ≤ maxLen := by
  obtain ⟨-, ⟨-, rfl⟩ | ⟨g, cap, cur, -, -, -, h1, h2, -⟩⟩ := h.own
  · exact Nat.zero_le _
  · exact Nat.le_trans h1 h2
theorem i256 : (Try.prog.info? 81).map (·.size) = some 256 := by kernel_rfl
def z256 : List Nat := List.replicate 256 0
theorem z256v (w : World) : (zeroValue 81).run Try.prog w = .ok (.agg (u8s z256).toArray) w := by kernel_rfl
theorem zints (w : World) : (zeroValue 33).run Try.prog w = .ok (.slice none 0 0) w := by kernel_rfl
theorem keyI : Go.Maps.Keyed Try.prog 3 := Go.Maps.int_keyed Try.underlying3
theorem keyOfI (b : Nat) (h : b < 65536) : keyOf Try.prog 3 (.int .i64 (b : Int)) = some (.int .i64 (b : Int)) := by
  refine Go.Maps.keyOf_int_mk Try.underlying3 ?_
  have e1 : IntKind.i64.min = -9223372036854775808 := rfl
  have e2 : IntKind.i64.max = 9223372036854775807 := rfl
  simp only [Lit.wf, e1, e2, Bool.and_eq_true, decide_eq_true_eq]
  omega
/-- What the map tells of a block. -/
theorem WtM.look {w : World} {own : Owner} {bm : Nat} {wr : List WrE} {wt : List Nat} (h : WtM w own bm wr wt) {b : Nat} (hb : b < 65536) : ∃ v, (∀ (R : Nat → Prop) (w' : World), But R w w' → ¬ R bm → (Instr.lookup 76 (.map (some bm)) (.int .i64 (b : Int)) false).run Try.prog w' = .ok v w') ∧ RowOf w (Is own (.row b)) 3 1 v (wb wr wt b).length (ints (wb wr wt b)) := by
  obtain ⟨M, h1, h2, h3⟩ := h.ex
  have hl := fun (R : Nat → Prop) w' (k : But R w w') hr => (h1.but k hr).look (t := 76) (et := 33) keyI Try.underlying76 (zints w') (keyOfI b hb) false
  by_cases he : wb wr wt b = []
  · refine ⟨.slice none 0 0, fun R w' k hr => (hl R w' k hr).2 (fun p hp => ?_), by rw [he]; exact RowOf.nil _ _ _ _⟩
    obtain ⟨b', e1, e2, e3, e4⟩ := h2 p hp
    rw [e1]
    intro e
    simp only [Value.int.injEq, true_and] at e
    have : b' = b := by omega
    exact e3 (by rw [this]; exact he)
  · obtain ⟨v, hv⟩ := h3 b he
    refine ⟨v, fun R w' k hr => (hl R w' k hr).1 v hv, ?_⟩
    obtain ⟨b', e1, e2, e3, e4⟩ := h2 _ hv
    simp only [Value.int.injEq, true_and] at e1
    have : b' = b := by omega
    rw [this] at e4
    exact e4
/-- A stored block, among the others. -/
theorem flat_cut {st : List (List Nat)} {b : Nat} (hb : b < st.length) : st.flatMap u8s = (st.take b).flatMap u8s ++ u8s (st.getD b []) ++ (st.drop (b + 1)).flatMap u8s := by
  have e : st = st.take b ++ (st.getD b [] :: st.drop (b + 1)) := by
    rw [List.getD_eq_getElem?_getD, List.getElem?_eq_getElem hb]
    simp
  conv => lhs; rw [e]
  rw [List.flatMap_append, List.flatMap_cons, List.append_assoc]
theorem flat_pre {st : List (List Nat)} (h : ∀ c ∈ st, wf256 c) {b : Nat} (hb : b ≤ st.length) : ((st.take b).flatMap u8s).length = b * 256 := by
  rw [flat_len (s := 256) _ (fun c hc => by rw [u8s_len]; exact (h c (List.mem_of_mem_take hc)).1), List.length_take, Nat.min_eq_left hb]
theorem flat_set {st : List (List Nat)} {b : Nat} (hb : b < st.length) (c : List Nat) : (st.set b c).flatMap u8s = (st.take b).flatMap u8s ++ u8s c ++ (st.drop (b + 1)).flatMap u8s := by
  rw [flat_cut (st := st.set b c) (by rw [List.length_set]; exact hb), List.take_set_of_le (Nat.le_refl _), List.drop_set_of_lt (by omega)]
  congr 2
  simp [List.getD, hb]
theorem DvM.cells {w : World} {own : Owner} {gd gs bm : Nat} {s : Dev} {vw vi : Value} (h : DvM w own gd s gs vw bm vi) {b : Nat} (hb : b < s.st.length) : ∀ c u, (u8s (s.st.getD b []))[c]? = some u → w.cell? ((⟨gs, b * 256, none⟩ : Addr).add c) = some u := fun c u hc => by
  rw [addr_add, h.sto.cell, flat_cut hb, List.append_assoc, List.getElem?_append_right (by rw [flat_pre h.ok.st (Nat.le_of_lt hb)]; omega), flat_pre h.ok.st (Nat.le_of_lt hb), show b * 256 + c - b * 256 = c by omega, List.getElem?_append_left (by
    rcases Nat.lt_or_ge c (u8s (s.st.getD b [])).length with h1 | h1
    · exact h1
    · rw [List.getElem?_eq_none h1] at hc; cases hc)]
  exact hc
/-- A write, in the row of all writes. -/
theorem DvM.wrote {w : World} {own : Owner} {gd gs bm : Nat} {s : Dev} {vw vi : Value} (h : DvM w own gd s gs vw bm vi) {i : Nat} (hi : i < s.wr.length) : ∃ g cap, vw = .slice (some ⟨g, 0, none⟩) s.wr.length cap ∧ own g = .wri ∧ ∀ c u, (wcell (s.wr.getD i d0))[c]? = some u → w.cell? ⟨g, i * 257 + c, none⟩ = some u := by
  obtain ⟨ao, cap, e, h2⟩ := h.wri.shape
  obtain ⟨g, rfl, h3, -, h5⟩ := h2 (by omega)
  refine ⟨g, cap, e, h3, fun c u hu => h5 _ _ (flat_at s.wr (fun e he => wcell_len (h.ok.wr e he).2) i _ c u (by rw [List.getD_eq_getElem?_getD, List.getElem?_eq_getElem hi]; rfl) hu)⟩
set_option maxRecDepth 100000 in
set_option maxHeartbeats 2000000 in
theorem reads_any {w : World} {own : Owner} {gd : Nat} {s : Dev} (h : Dv w own gd s) {b : Nat} (hb : b < s.st.length) :
    Calls Try.prog 51 #[.pointer (some ⟨gd, 0, none⟩), .int .i64 (b : Int)] w fun e w' => e = .returned (.agg (u8s (s.now b)).toArray) ∧ Grow w w' := by
  obtain ⟨gs, vw, bm, vi, h⟩ := h
  have hok := h.ok
  obtain ⟨Z, hZ⟩ : ∃ Z, Z = u8s z256 := ⟨_, rfl⟩
  have hz := z256v
  rw [← hZ] at hz
  have HZL : Hid (Z.length = 256) := by show _ = _; rw [hZ]; rfl
  obtain ⟨W0, hW0⟩ : ∃ W0, W0 = w.alloc (.cells Z.toArray 81) := ⟨_, rfl⟩
  have hG0 : Grow w W0 := by rw [hW0]; exact (But.refl _ w).alloc _
  obtain ⟨g0, hg0⟩ : ∃ g, g = w.heap.size := ⟨_, rfl⟩
  have HB0 : Hid (Blk W0 g0 81 Z) := by show Blk _ _ _ _; rw [hW0]; exact Blk.new hg0.symm
  have h0 := h.but hG0 (fun _ _ h => h)
  have HH := Hid.mk' h0
  obtain ⟨vr, hlk, hrow⟩ := h0.map.look (b := b) (by have := hok.nb; omega)
  have HLK := Hid.mk' (hlk (fun _ => False) W0 (But.refl _ _) (fun h => h))
  have HW0 := Hid.mk' hW0
  have HG0 := Hid.mk' hG0
  have HGE := Hid.mk' hg0
  have HOK := Hid.mk' hok
  have HBN := Hid.mk' hb
  have HWF := Hid.mk' (hok.now hb)
  have c2 : W0.cell? ⟨gd, 2, none⟩ = some (.map (some bm)) := h0.blk.cell 2
  have hbi : (b : Int) < (s.st.length : Int) := by omega
  by_cases he : wb s.wr s.wt b = []
  · have hnow : s.now b = s.st.getD b [] := by unfold Dev.now; rw [he]; rfl
    rw [he] at hrow
    obtain ⟨ao, cap, rfl, -⟩ := hrow.shape
    simp only [List.length_nil] at HLK
    obtain ⟨n, hn⟩ : ∃ n, n = s.st.length := ⟨_, rfl⟩
    have c0 : W0.cell? ⟨gd, 0, none⟩ = some (.slice (some ⟨gs, 0, none⟩) s.st.length s.st.length) := h0.blk.cell 0
    rw [← hn] at c0 hbi
    have HCE := Hid.mk' (h0.cells hb)
    rw [← hnow] at HCE
    obtain ⟨D, hD⟩ : ∃ D, D = s.now b := ⟨_, rfl⟩
    rw [← hD] at HCE HWF ⊢
    have HDL : Hid (D.length = 256) := HWF.out.1
    clear h h0 hok hlk hrow hnow he hb hW0 hg0 hG0 hZ hD hn
    go_enter Try.func51, Try.ntmps51
    go_upto_region 1 with fail
    rw [← HW0.out, ← HGE.out]
    go_upto_region 2 with (first
      | (refine wpList_run rfl (exec_lookup rfl rfl rfl HLK.out) ?_)
      | fail)
    go_wp2_with (first
      | (refine wpList_load_cells rfl _ _ rfl ⟨gs, b * 256, none⟩ rfl (u8s D) _ HCE.out Try.underlying81 rfl (by rw [i256, u8s_len, HDL.out]) ?_)
      | (refine wpList_store_u8s i256 rfl _ _ rfl g0 D HDL.out rfl rfl Z HZL.out HB0.out ?_; intro W9 hb9 hbut9)
      | fail)
    refine bodyPost_ret (results_cell_row rfl _ _ g0 _ _ _ _ rfl hb9 Try.underlying81 rfl (by rw [i256]; simp [HDL.out])) rfl ⟨rfl, ?_⟩
    exact HG0.out.then hbut9 (fun i hi e => by have := HGE.out; omega)
  · obtain ⟨l, i, hl⟩ : ∃ l i, wb s.wr s.wt b = l ++ [i] := ⟨_, _, (List.dropLast_concat_getLast he).symm⟩
    have hnow : s.now b = (s.wr.getD i d0).2 := by unfold Dev.now; rw [hl]; simp
    have hiw : i ∈ wb s.wr s.wt b := by rw [hl]; simp
    have hi : i < s.wr.length := hok.wl i (List.mem_filter.1 hiw).1
    rw [hl] at hrow
    obtain ⟨ao, cap, rfl, hsh⟩ := hrow.shape
    obtain ⟨gr, rfl, hgr, -, hcr⟩ := hsh (by simp)
    obtain ⟨gw, cw, rfl, hgw, hcw⟩ := h0.wrote hi
    obtain ⟨L, hL⟩ : ∃ L, L = l.length := ⟨_, rfl⟩
    have hlen : (l ++ [i]).length = L + 1 := by simp [hL]
    have HLI : Hid (W0.cell? ⟨gr, L, none⟩ = some (.int .i64 (i : Int))) := hcr L _ (by
      unfold ints
      rw [List.map_append, List.getElem?_append_right (by simp [hL])]
      simp [hL])
    rw [hlen] at HLK
    obtain ⟨m, hm⟩ : ∃ m, m = s.wr.length := ⟨_, rfl⟩
    have hiI : (i : Int) < (m : Int) := by omega
    have HCW : Hid (∀ c u, (u8s (s.now b))[c]? = some u → W0.cell? ((⟨gw, i * 257 + 1, none⟩ : Addr).add c) = some u) := fun c u hc => by
      rw [addr_add, show i * 257 + 1 + c = i * 257 + (c + 1) by omega]
      refine hcw (c + 1) u ?_
      rw [hnow] at hc
      unfold wcell
      rw [List.getElem?_cons_succ]; exact hc
    obtain ⟨D, hD⟩ : ∃ D, D = s.now b := ⟨_, rfl⟩
    rw [← hD] at HCW HWF ⊢
    have HDL : Hid (D.length = 256) := HWF.out.1
    have HC1 : Hid (W0.cell? ⟨gd, 1, none⟩ = some (.slice (some ⟨gw, 0, none⟩) m cw)) := by rw [hm]; exact h0.blk.cell 1
    have hL1 : IntKind.i64.wrap (((L + 1 : Nat) : Int) - 1) = (L : Int) := by
      rw [show (((L + 1 : Nat) : Int) - 1) = (L : Int) by omega]
      have h1 := hrow.le
      rw [hlen] at h1
      unfold maxLen at h1
      exact wrap64 _ (by omega) (by omega)
    have hL2 : (L : Int) < ((L + 1 : Nat) : Int) := by omega
    have hL3 : (0 : Int) < ((L + 1 : Nat) : Int) := by omega
    obtain ⟨L1, hL1e⟩ : ∃ L1, L1 = L + 1 := ⟨_, rfl⟩
    rw [← hL1e] at HLK hL1 hL2 hL3
    obtain ⟨N, hN⟩ : ∃ N, N = (u8s D).toArray := ⟨_, rfl⟩
    have HNE := Hid.mk' hN
    clear h h0 hok hlk hrow hnow he hb hW0 hg0 hG0 hZ hD hm hcw hcr hsh hgr hgw hi hiw hl hlen hL hL1e hN
    go_enter Try.func51, Try.ntmps51
    go_upto_region 1 with fail
    rw [← HW0.out, ← HGE.out]
    go_upto_region 2 with (first
      | (refine wpList_run rfl (exec_lookup rfl rfl rfl HLK.out) ?_)
      | fail)
    go_upto_region 3 with fail
    clear c2
    refine region_chain [([0, 1, 2, 3, 4, 5, 6, 7, 8, 9, 10, 11, 12], 13)] [] (Grow W0) (Grow W0) (by kernel_rfl) (by kernel_rfl) (fun _ _ h k => h.trans k) (fun _ h => h) ((But.refl _ W0).drew) ?_
    intro ι hne X hX
    have k1 : ∀ x, (X x).cell? ⟨gd, 1, none⟩ = some (.slice (some ⟨gw, 0, none⟩) m cw) := fun x => grow_cell (hX x) HC1.out
    have k2 : ∀ x, (X x).cell? ⟨gr, L, none⟩ = some (.int .i64 (i : Int)) := fun x => grow_cell (hX x) HLI.out
    iterate 12 (refine still_step rfl (fun K hK => ?_); go_simp; refine hK _ ?_; clear hK K)
    refine still_val rfl (.agg N) rfl (fun x => by rw [HNE.out]; exact run_load_arr Try.underlying81 i256 (fun c u hc => by have := HCW.out c u hc; rw [addr_add] at this ⊢; exact grow_cell (hX x) this) HDL.out rfl rfl) ?_
    intro K hK; go_simp; refine hK _ ?_; clear hK K
    refine still_nil ?_
    clear k1 k2 hX hne
    refine turn_run rfl rfl (fun _ w' => Grow w w' ∧ Blk w' g0 81 (u8s D)) (fun _ _ => True) (fun _ w1 w2 h k => ⟨h.1.trans k, h.2.but k (fun h => h)⟩) (fun _ _ _ => trivial) (.inl (by kernel_rfl)) ?_ ?_
    · intro w1 h1
      have hbz : Blk w1 g0 81 ([] ++ Z ++ []) := by simpa using HB0.out.but h1 (fun h => h)
      refine turn_cells (cs := u8s D) rfl rfl (by show Value.agg N = _; rw [HNE.out]) (by rw [i256, u8s_len, HDL.out]) (u8s_one _) hbz rfl (by rw [HZL.out, u8s_len, HDL.out]) ?_
      intro w2 hb2 hbut2
      refine ⟨(HG0.out.trans h1).then hbut2 (fun j hj e => by have := HGE.out; omega), by simpa using hb2⟩
    · rintro v5 - Y hY
      go_simp
      refine hY _ ?_
      clear hY Y
      intro ι hne X hX
      refine still_nil ?_
      clear hX hne
      rintro w5 ⟨h1, h2⟩
      go_wp2
      refine bodyPost_ret (results_cell_row rfl _ _ g0 _ _ _ _ rfl h2 Try.underlying81 rfl (by rw [i256]; simp [HDL.out])) rfl ⟨rfl, h1⟩
end Go.Proofs.Ytfgcbcopgikodaa
/- Read; what is built of a write. -/
namespace Go.Proofs.Ytfgcbcopgikodaa
open Go.RowKit

section
variable {w : World} {own : Owner} {gd : Nat} {s : Dev}
theorem read_down (h : Dv w own gd s) (hu : s.up = false) (x : Int) :
    Calls Try.prog 19 #[.pointer (some ⟨gd, 0, none⟩), .int .i64 x] w fun e w' => e = .returned (.tuple #[.slice none 0 0, .int .i64 7]) ∧ w' = w := by
  obtain ⟨gs, vw, bm, vi, h⟩ := h
  have c6 : w.cell? ⟨gd, 6, none⟩ = some (.bool s.up) := h.blk.cell 6
  rw [hu] at c6
  clear h hu
  go_enter Try.func19, Try.ntmps19
  go_wp2
  exact bodyPost_ret (results_tmp2 rfl _ _ _) rfl ⟨rfl, rfl⟩
theorem read_arg (h : Dv w own gd s) (hu : s.up = true) (x : Int) (hx : ¬ (0 ≤ x ∧ x < (s.st.length : Int))) :
    Calls Try.prog 19 #[.pointer (some ⟨gd, 0, none⟩), .int .i64 x] w fun e w' => e = .returned (.tuple #[.slice none 0 0, .int .i64 1]) ∧ w' = w := by
  have HHA := Hid.mk' (has_any h x)
  rw [decide_eq_false hx] at HHA
  obtain ⟨gs, vw, bm, vi, h⟩ := h
  have c6 : w.cell? ⟨gd, 6, none⟩ = some (.bool s.up) := h.blk.cell 6
  rw [hu] at c6
  clear h hu hx
  go_enter Try.func19, Try.ntmps19
  go_wp2_with fail
  refine Calls.mono HHA.out ?_
  rintro e w' ⟨rfl, rfl⟩
  go_wp2
  exact bodyPost_ret (results_tmp2 rfl _ _ _) rfl ⟨rfl, rfl⟩
set_option maxRecDepth 100000 in
set_option maxHeartbeats 2000000 in
theorem read_any (h : Dv w own gd s) (hu : s.up = true) {b : Nat} (hb : b < s.st.length) :
    Calls Try.prog 19 #[.pointer (some ⟨gd, 0, none⟩), .int .i64 (b : Int)] w fun e w' => ∃ g, e = .returned (.tuple #[.slice (some ⟨g, 0, none⟩) 256 256, .int .i64 0]) ∧ w.heap.size ≤ g ∧ Blk w' g 81 (u8s (s.now b)) ∧ Grow w w' := by
  have HHA := Hid.mk' (has_any h (b : Int))
  rw [decide_eq_true (by omega : (0 : Int) ≤ (b : Int) ∧ (b : Int) < (s.st.length : Int))] at HHA
  have HRE := Hid.mk' (reads_any h hb)
  have HWF := Hid.mk' (h.ok.now hb)
  obtain ⟨gs, vw, bm, vi, h⟩ := h
  have c6 : w.cell? ⟨gd, 6, none⟩ = some (.bool s.up) := h.blk.cell 6
  rw [hu] at c6
  obtain ⟨Z, hZ⟩ : ∃ Z, Z = u8s z256 := ⟨_, rfl⟩
  have hz := z256v
  rw [← hZ] at hz
  have HZL : Hid (Z.length = 256) := by show _ = _; rw [hZ]; rfl
  obtain ⟨D, hD⟩ : ∃ D, D = s.now b := ⟨_, rfl⟩
  rw [← hD] at HRE HWF ⊢
  have HDL : Hid (D.length = 256) := HWF.out.1
  clear h hu hb hZ hD
  go_enter Try.func19, Try.ntmps19
  go_wp2_with fail
  refine Calls.mono HHA.out ?_
  rintro e w' ⟨rfl, rfl⟩
  go_wp2_with fail
  refine Calls.mono HRE.out ?_
  rintro e w1 ⟨rfl, hg1⟩
  have HG1 := Hid.mk' hg1
  have HBZ : Hid (Blk (w1.alloc (.cells Z.toArray 81)) w1.heap.size 81 Z) := Blk.new rfl
  clear hg1
  go_wp2_with (first
    | (refine wpList_store_u8s i256 rfl _ _ rfl w1.heap.size D HDL.out rfl rfl Z HZL.out HBZ.out ?_; intro w2 hb2 hbut2)
    | fail)
  refine bodyPost_ret (results_tmp2 rfl _ _ _) rfl ⟨w1.heap.size, rfl, HG1.out.size, hb2, HG1.out.trans (((But.refl _ w1).alloc _).then hbut2 (fun j hj e => by omega))⟩
end
def zeroW : Array Value := (.int .i64 0 :: List.replicate 256 (.int .u8 0)).toArray
theorem built_w (parts : List (Nat × Value)) : Try.prog.built 83 parts = Instr.fill (#[(0, 1), (1, 256)][·]?) zeroW parts := by kernel_rfl
set_option maxRecDepth 100000 in
theorem build_write (x : Int) (N : Array Value) (h : N.size = 256) (w : World) : (Instr.build 83 #[(0, .int .i64 x), (1, .agg N)]).run Try.prog w = .ok (.agg (.int .i64 x :: N.toList).toArray) w := by
  refine run_build w _ _ _ ?_
  rw [built_w]
  have e1 : (Value.int .i64 x).cells = #[.int .i64 x] := rfl
  have e2 : (Value.agg N).cells = N := rfl
  have hz : zeroW.size = 257 := by kernel_rfl
  obtain ⟨A, hA⟩ : ∃ A, A = (#[Value.int .i64 x].zipIdx.foldl (fun cs (c : Value × Nat) => cs.setIfInBounds (0 + c.2) c.1) zeroW) := ⟨_, rfl⟩
  have hA' : A = zeroW.setIfInBounds 0 (.int .i64 x) := by rw [hA]; rfl
  have hAs : A.size = 257 := by rw [hA', Array.size_setIfInBounds, hz]
  have hf := Go.Great.foldl_set 1 N.toList 0 A
  unfold Instr.fill
  simp only [e1]
  show (if _ then none else Instr.fill _ _ _) = _
  rw [if_neg (by simp [hz])]
  unfold Instr.fill
  simp only [e2]
  show (if _ then none else Instr.fill _ _ _) = _
  have hA2 : (#[Value.int .i64 x].zipIdx.foldl (fun cs (c, j) => cs.setIfInBounds (0 + j) c) zeroW) = A := hA.symm
  rw [hA2, if_neg (by simp [h, hAs])]
  unfold Instr.fill
  congr 1
  apply Array.ext_getElem?
  intro k
  have h3 : N.zipIdx.foldl (fun cs (c, j) => cs.setIfInBounds (1 + j) c) A = (N.toList.zipIdx 0).foldl (fun cs (x : Value × Nat) => cs.setIfInBounds (1 + x.2) x.1) A := by
    rw [← Array.foldl_toList, Array.toList_zipIdx]
  rw [h3, hf.2 k]
  simp only [Array.length_toList, h, hAs]
  by_cases hk : k = 0
  · subst hk
    rw [if_neg (by omega), hA']
    simp [hz]
  · by_cases hk2 : k < 257
    · rw [if_pos (by omega)]
      obtain ⟨j, rfl⟩ : ∃ j, k = j + 1 := ⟨k - 1, by omega⟩
      simp
    · rw [if_neg (by omega), Array.getElem?_eq_none (by omega), Array.getElem?_eq_none (by simp [h]; omega)]
end Go.Proofs.Ytfgcbcopgikodaa
/- Write. -/
namespace Go.Proofs.Ytfgcbcopgikodaa
open Go.RowKit

def Dev.write (s : Dev) (b : Nat) (xs : List Nat) : Dev := { s with wr := s.wr ++ [(b, xs)], wt := s.wt ++ [s.wr.length] }
theorem getD_left (wr : List WrE) (e : WrE) (i : Nat) (h : i < wr.length) : (wr ++ [e]).getD i d0 = wr.getD i d0 := by
  simp [List.getD, List.getElem?_append_left h]
theorem wb_snoc {wr : List WrE} {wt : List Nat} {b c : Nat} {xs : List Nat} (h : ∀ i ∈ wt, i < wr.length) : wb (wr ++ [(b, xs)]) (wt ++ [wr.length]) c = wb wr wt c ++ (if b = c then [wr.length] else []) := by
  unfold wb
  rw [List.filter_append]
  congr 1
  · apply List.filter_congr
    intro i hi
    rw [getD_left _ _ _ (h i hi)]
  · have e : (wr ++ [(b, xs)]).getD wr.length d0 = (b, xs) := by simp [List.getD]
    rw [List.filter_cons, e]
    by_cases hbc : b = c <;> simp [hbc]
theorem Dev.ok.write {s : Dev} (h : s.ok) {b : Nat} {xs : List Nat} (hb : b < s.st.length) (hx : wf256 xs) : (s.write b xs).ok := by
  refine ⟨h.n1, h.nb, h.st, fun e he => ?_, ?_, fun i hi => ?_, h.im⟩
  · rcases List.mem_append.1 he with he | he
    · exact h.wr e he
    · rw [show e = (b, xs) by simpa using he]; exact ⟨hb, hx⟩
  · refine List.pairwise_append.2 ⟨h.wt, List.pairwise_singleton _ _, fun i hi j hj => ?_⟩
    rw [show j = s.wr.length by simpa using hj]; exact h.wl i hi
  · show i < (s.wr ++ [(b, xs)]).length
    rw [List.length_append, List.length_singleton]
    rcases List.mem_append.1 hi with hi | hi
    · have := h.wl i hi; omega
    · rw [show i = s.wr.length by simpa using hi]; omega
theorem DvM.wrote3 {w w1 w5 : World} {own own1 : Owner} {gd gs bm : Nat} {s : Dev} {vw vi v2 : Value} (h : DvM w own gd s gs vw bm vi) {b : Nat} {xs : List Nat} (hb : b < s.st.length) (hx : wf256 xs)
    (k1 : But (fun k => own k = .row b ∨ k = bm) w w1) (e1 : Ext own own1) (f1 : Fresh w own own1) (t1 : Top w1 own1) (m1 : WtM w1 own1 bm (s.write b xs).wr (s.write b xs).wt)
    (k2 : But (fun k => vw.ownBlock = some k ∨ k = gd) w1 w5) (hrow : w5.ownsRow 0 83 257 v2 (s.wr.length + 1) (s.wr.flatMap wcell ++ wcell (b, xs))) (ha : ∀ k, v2.ownBlock = some k → vw.ownBlock = some k ∨ w1.heap.size ≤ k) (hl : ∀ k, v2.ownBlock = some k → k < w5.heap.size)
    (hblk : Blk w5 gd 79 [.slice (some ⟨gs, 0, none⟩) s.st.length s.st.length, v2, .map (some bm), vi, .int .i64 (s.cnt : Int), .int .i64 (s.arm : Int), .bool s.up]) : DvTo w own gd (s.write b xs) w5 := by
  have hvw : ∀ k, vw.ownBlock = some k → own k = .wri := fun k hk => h.wri.inF k hk
  have hvw1 : ∀ k, vw.ownBlock = some k → own1 k = .wri := fun k hk => (e1 k (by rw [hvw k hk]; decide)).trans (hvw k hk)
  have q1 : ∀ {t : Tag}, t ≠ .row b → t ≠ .map → ∀ k, own k = t → ¬ (own k = .row b ∨ k = bm) := fun h1 h2 k hk hh => by
    rcases hh with hh | hh
    · exact h1 (hk.symm.trans hh)
    · exact h2 (hk.symm.trans (by rw [hh]; exact h.mat))
  have q2 : ∀ {t : Tag}, t ≠ .none → t ≠ .wri → t ≠ .dev → ∀ k, own1 k = t → ¬ (vw.ownBlock = some k ∨ k = gd) := fun _ h1 h2 k hk hh => by
    rcases hh with hh | hh
    · exact h1 (hk.symm.trans (hvw1 k hh))
    · exact h2 (hk.symm.trans (by rw [hh]; exact e1.is (by decide) gd h.tag))
  have hE : Ext own1 (tagV own1 v2 .wri) := Ext.tagV (fun k hk => (ha k hk).elim (fun e => .inr (hvw1 k e)) (fun e => .inl (t1 k e)))
  have hF : Fresh w1 own1 (tagV own1 v2 .wri) := (Fresh.refl w1 own1).tagV (fun k hk => (ha k hk).elim (fun e => .inr (hvw1 k e)) .inl)
  refine ⟨(k1.mono (fun k _ e => ?_)).then (S := fun k => own1 k ≠ .none) (k2.mono (fun k _ e => ?_)) (fun k hk e => ?_), tagV own1 v2 .wri, fun k hk => ?_, gs, v2, bm, vi, (t1.grow k2.size).tagV hl, ?_, hblk, ?_, ?_, ⟨?_, fun k hk => tagV_own hk⟩, ?_, ?_, ?_, h.ok.write hb hx⟩
  · rcases e with e | e
    · rw [e]; simp
    · rw [e, h.mat]; decide
  · rcases e with e | e
    · rw [hvw1 k e]; decide
    · rw [e, e1.is (t := .dev) (by decide) gd h.tag]; decide
  · intro h0
    by_cases hq : own1 k = own k
    · exact e (hq.trans h0)
    · have := f1 k hq; omega
  · by_cases hq : tagV own1 v2 .wri k = own1 k
    · exact f1 k (by rw [← hq]; exact hk)
    · exact Nat.le_trans k1.size (hF k hq)
  · exact hE.is (by decide) gd (e1.is (by decide) gd h.tag)
  · exact hE.is (by decide) gs (e1.is (by decide) gs h.stt)
  · exact (h.sto.but k1 (q1 (t := .sto) (by simp) (by decide) gs h.stt)).but k2 (q2 (t := .sto) (by decide) (by decide) (by decide) gs (e1.is (by decide) gs h.stt))
  · show w5.ownsRow 0 _ 257 v2 (s.wr ++ [(b, xs)]).length ((s.wr ++ [(b, xs)]).flatMap wcell)
    rw [List.length_append, List.length_singleton, List.flatMap_append, show ([(b, xs)] : List WrE).flatMap wcell = wcell (b, xs) by simp]
    exact hrow
  · exact hE.is (by decide) bm (e1.is (by decide) bm h.mat)
  · exact m1.but k2 (q2 (t := .map) (by decide) (by decide) (by decide) bm (e1.is (by decide) bm h.mat)) (fun c k hk => q2 (t := .row c) (by simp) (by simp) (by simp) k hk) (fun c k hk => hE.is (by simp) k hk)
  · have h1 : ImM w1 own1 s.st.length vi s.im := h.img.but k1 (fun j hj => hj.elim (q1 (by simp) (by decide) j) (q1 (by simp) (by decide) j)) (fun j hj => e1 j hj)
    exact h1.but k2 (fun j hj => hj.elim (q2 (by decide) (by decide) (by decide) j) (q2 (by decide) (by decide) (by decide) j)) (fun j hj => hE j hj)
/-- A row of the map has one more. -/
theorem WtM.add {w w1 : World} {own own1 : Owner} {bm : Nat} {wr : List WrE} {wt : List Nat} {b : Nat} {xs : List Nat} {v : Value} {M M' : List (Value × Value)} (hwl : ∀ i ∈ wt, i < wr.length) (hb : b < 65536)
    (h2 : ∀ p ∈ M, ∃ b : Nat, p.1 = .int .i64 (b : Int) ∧ b < 65536 ∧ wb wr wt b ≠ [] ∧ RowOf w (Is own (.row b)) 3 1 p.2 (wb wr wt b).length (ints (wb wr wt b))) (h3 : ∀ b : Nat, wb wr wt b ≠ [] → ∃ v, ((.int .i64 (b : Int) : Value), v) ∈ M)
    (hM : Mq Try.prog 3 w1 bm M') (hin : ((.int .i64 (b : Int) : Value), v) ∈ M') (hot : ∀ k u, k ≠ .int .i64 (b : Int) → ((k, u) ∈ M' ↔ (k, u) ∈ M)) (k1 : But (fun k => own k = .row b ∨ k = bm) w w1) (hbm : own bm = .map) (e1 : Ext own own1)
    (hr : RowOf w1 (Is own1 (.row b)) 3 1 v ((wb wr wt b).length + 1) (ints (wb wr wt b) ++ [.int .i64 (wr.length : Int)])) : WtM w1 own1 bm (wr ++ [(b, xs)]) (wt ++ [wr.length]) := by
  refine ⟨M', hM, fun p hp => ?_, fun c hc => ?_⟩
  · by_cases hk : p.1 = .int .i64 (b : Int)
    · have hpv : p.2 = v := hM.uniq (k := .int .i64 (b : Int)) (by rw [← hk]; exact hp) hin
      refine ⟨b, hk, hb, ?_, ?_⟩
      · rw [wb_snoc hwl]; simp
      · rw [wb_snoc hwl, if_pos rfl, List.length_append, List.length_singleton, hpv, show ints (wb wr wt b ++ [wr.length]) = ints (wb wr wt b) ++ [.int .i64 (wr.length : Int)] by simp [ints]]
        exact hr
    · obtain ⟨c, h4, h5, h6, h7⟩ := h2 p ((hot p.1 p.2 hk).1 hp)
      have hcb : ¬ b = c := fun e => hk (by rw [h4, e])
      refine ⟨c, h4, h5, by rw [wb_snoc hwl, if_neg hcb, List.append_nil]; exact h6, ?_⟩
      rw [wb_snoc hwl, if_neg hcb, List.append_nil]
      exact h7.but k1 (fun j hj hh => by
        have hj : own j = .row c := hj
        rcases hh with hh | hh
        · rw [hj] at hh; exact hcb (by simpa using hh.symm)
        · rw [hh, hbm] at hj; cases hj) (fun j hj => e1.is (by simp) j hj)
  · rw [wb_snoc hwl] at hc
    by_cases hcb : b = c
    · subst hcb; exact ⟨v, hin⟩
    · rw [if_neg hcb, List.append_nil] at hc
      obtain ⟨u, hu⟩ := h3 c hc
      refine ⟨u, (hot _ u (fun e => hcb ?_)).2 hu⟩
      simp only [Value.int.injEq, true_and] at e
      omega
theorem infI : (Try.prog.info? 3).map (fun i => (i.zero, i.size, i.bytes)) = some (some (.int .i64 0), 1, 8) := by kernel_rfl
theorem infW : (Try.prog.info? 83).map (fun i => (i.zero, i.size, i.bytes)) = some (some (.agg zeroW), 257, 264) := by kernel_rfl
theorem exec_arrayAt {w : World} {o : Oper} {ρ : Operand → Value} {T e : TypeId} {x : Operand} {n l c : Nat} {ao : Option Addr} (hu : Try.prog.underlying T = some (.array n e)) (ho : o.op = .sliceToArrayPointer T x) (hx : ρ x = .slice ao l c) (hl : n ≤ l) : (execOp ρ o).run Try.prog w = .ok (.value (.pointer ao)) w := by
  unfold execOp
  simp only [ho, hx, Instr.arrayAt, run_underlying hu, Sem.run_bind, Result.andThen_ok]
  rw [if_neg (by omega)]
  simp
section
variable {w : World} {own : Owner} {gd : Nat} {s : Dev} {v : Value} {xs : List Nat}
theorem write_down (h : Dv w own gd s) (hu : s.up = false) (x : Int) (v : Value) :
    Calls Try.prog 27 #[.pointer (some ⟨gd, 0, none⟩), .int .i64 x, v] w fun e w' => e = .returned (.int .i64 7) ∧ w' = w := by
  obtain ⟨gs, vw, bm, vi, h⟩ := h
  have c6 : w.cell? ⟨gd, 6, none⟩ = some (.bool s.up) := h.blk.cell 6
  rw [hu] at c6
  clear h hu
  go_enter Try.func27, Try.ntmps27
  go_wp2
  go_ret
  exact ⟨rfl, rfl⟩
theorem write_arg (h : Dv w own gd s) (hu : s.up = true) (x : Int) (hv : Bs w v xs) (hx : ¬ ((0 ≤ x ∧ x < (s.st.length : Int)) ∧ xs.length = 256)) :
    Calls Try.prog 27 #[.pointer (some ⟨gd, 0, none⟩), .int .i64 x, v] w fun e w' => e = .returned (.int .i64 1) ∧ w' = w := by
  have HHA := Hid.mk' (has_any h x)
  obtain ⟨gs, vw, bm, vi, h⟩ := h
  have c6 : w.cell? ⟨gd, 6, none⟩ = some (.bool s.up) := h.blk.cell 6
  rw [hu] at c6
  obtain ⟨ao, cap, rfl, -⟩ := hv.gen
  clear h hu hv
  by_cases h1 : 0 ≤ x ∧ x < (s.st.length : Int)
  · rw [decide_eq_true h1] at HHA
    have hne : ¬ xs.length = 256 := fun e => hx ⟨h1, e⟩
    clear hx h1
    generalize xs.length = l at *
    have hne' : ((l : Int) == 256) = false := by
      have : ¬ ((l : Int) = 256) := by omega
      simpa using this
    clear hne
    go_enter Try.func27, Try.ntmps27
    go_wp2_with fail
    refine Calls.mono HHA.out ?_
    rintro e w' ⟨rfl, rfl⟩
    go_wp2
    go_ret
    exact ⟨rfl, rfl⟩
  · rw [decide_eq_false h1] at HHA
    clear hx h1
    generalize xs.length = l at *
    go_enter Try.func27, Try.ntmps27
    go_wp2_with fail
    refine Calls.mono HHA.out ?_
    rintro e w' ⟨rfl, rfl⟩
    go_wp2
    go_ret
    exact ⟨rfl, rfl⟩
end
end Go.Proofs.Ytfgcbcopgikodaa
/- Write, where it waits. -/
namespace Go.Proofs.Ytfgcbcopgikodaa
open Go.RowKit

theorem rising_len : ∀ (l : List Nat) (lo n : Nat), l.Pairwise (· < ·) → (∀ i ∈ l, lo ≤ i ∧ i < n) → l.length ≤ n - lo
  | [], _, _, _, _ => Nat.zero_le _
  | a :: l, lo, n, hp, h => by
    have hp' := List.pairwise_cons.1 hp
    have h1 := rising_len l (a + 1) n hp'.2 (fun i hi => ⟨hp'.1 i hi, (h i (List.mem_cons_of_mem _ hi)).2⟩)
    have h2 := h a List.mem_cons_self
    rw [List.length_cons]
    omega
/-- Behind the first statement: the map has one more. -/
structure WMid (w : World) (own : Owner) (bm : Nat) (s : Dev) (b : Nat) (xs : List Nat) (w1 : World) : Prop where
  k1 : But (fun k => own k = .row b ∨ k = bm) w w1
  ex : ∃ own1, Ext own own1 ∧ Fresh w own own1 ∧ Top w1 own1 ∧ WtM w1 own1 bm (s.write b xs).wr (s.write b xs).wt
theorem WMid.grow {w w1 w2 : World} {own : Owner} {bm b : Nat} {s : Dev} {xs : List Nat} (h : WMid w own bm s b xs w1) (k : Grow w1 w2) : WMid w own bm s b xs w2 := by
  obtain ⟨own1, h1, h2, h3, h4⟩ := h.ex
  exact ⟨h.k1.trans (k.mono (fun _ _ h => h.elim)), own1, h1, h2, h3.grow k.size, h4.but k (fun h => h) (fun _ _ _ h => h) (fun _ _ h => h)⟩
set_option maxRecDepth 100000 in
set_option maxHeartbeats 4000000 in
theorem write_any {w : World} {own : Owner} {gd : Nat} {s : Dev} {v : Value} {xs : List Nat} (h : Dv w own gd s) (hu : s.up = true) {b : Nat} (hb : b < s.st.length) (hv : Bf w (Is own .none) v xs) (hx : xs.length = 256) (hm : s.wr.length < 100000) (hc : s.cnt < 4611686018427387904) (ha : s.arm ≤ 9223372036854775807) :
    Calls Try.prog 27 #[.pointer (some ⟨gd, 0, none⟩), .int .i64 (b : Int), v] w fun e w' => e = .returned (.int .i64 (if s.arm = 1 then 7 else 0)) ∧ DvTo w own gd (s.write b xs).acc w' := by
  have HHA := Hid.mk' (has_any h (b : Int))
  rw [decide_eq_true (by omega : (0 : Int) ≤ (b : Int) ∧ (b : Int) < (s.st.length : Int))] at HHA
  have hok := h.ok
  obtain ⟨gs, vw, bm, vi, h⟩ := h
  have HH := Hid.mk' h
  have HACC : Hid (∀ w5, DvTo w own gd (s.write b xs) w5 → Calls Try.prog 50 #[.pointer (some ⟨gd, 0, none⟩)] w5 fun e w' => e = .returned (.bool (!(s.arm == 1))) ∧ DvTo w own gd (s.write b xs).acc w') := fun w5 h5 => by
    obtain ⟨own5, f5, d5⟩ := h5.ex
    refine (access_any d5 hu hc ha).mono ?_
    rintro e w6 ⟨rfl, h6⟩
    obtain ⟨own6, f6, d6⟩ := h6.ex
    refine ⟨rfl, h5.but.then (S := fun k => own5 k ≠ .none) h6.but (fun k hk e h0 => ?_), own6, fun k hk => ?_, d6⟩
    · by_cases hq : own5 k = own k
      · exact e (hq.trans h0)
      · have := f5 k hq; omega
    · by_cases hq : own6 k = own5 k
      · exact f5 k (by rw [← hq]; exact hk)
      · exact Nat.le_trans h5.but.size (f6 k hq)
  have c6 : w.cell? ⟨gd, 6, none⟩ = some (.bool s.up) := h.blk.cell 6
  rw [hu] at c6
  have hb65 : b < 65536 := by have := hok.nb; omega
  obtain ⟨vr, hlk, hrow⟩ := h.map.look hb65
  obtain ⟨M, hM, hM2, hM3⟩ := h.map.ex
  obtain ⟨ao, cap, rfl, -⟩ := hv.1.gen
  rw [hx] at hv ⊢
  obtain ⟨aw, cw, hvw, -⟩ := h.wri.shape
  subst hvw
  obtain ⟨m, hme⟩ : ∃ m, m = s.wr.length := ⟨_, rfl⟩
  have HME := Hid.mk' hme
  have HWF : Hid (wf256 xs) := ⟨hx, hv.1.1⟩
  have HLK := Hid.mk' hlk
  have HROW := Hid.mk' hrow
  have HM := Hid.mk' hM
  have HM2 := Hid.mk' hM2
  have HM3 := Hid.mk' hM3
  have HOK := Hid.mk' hok
  have HB := Hid.mk' hb
  have HB65 := Hid.mk' hb65
  have HMB := Hid.mk' hm
  have HV := Hid.mk' hv
  have HRT : Hid (∀ k, vr.ownBlock = some k → own k = .row b) := fun k hk => hrow.inF k hk
  have HND : Hid (∀ k, vr.ownBlock = some k → k ≠ gd ∧ k ≠ bm) := fun k hk => ⟨fun e => (by have := HRT.out k hk; rw [e, HH.out.tag] at this; cases this), fun e => (by have := HRT.out k hk; rw [e, HH.out.mat] at this; cases this)⟩
  have HWD : Hid (¬ (.slice aw m cw : Value).ownBlock = some gd) := fun e => by
    have h1 : own gd = .wri := HH.out.wri.inF gd (by rw [HME.out] at e; exact e)
    rw [HH.out.tag] at h1; cases h1
  have hblk := h.blk
  rw [← hme] at hblk
  have HBK := Hid.mk' hblk
  have HX := Hid.mk' hx
  obtain ⟨ad, rfl⟩ : ∃ ad, ao = some ad := by
    cases ao with
    | none =>
      obtain ⟨ao', cap', e, h1, -⟩ := hv.1.gen
      simp only [Value.slice.injEq] at e
      have := (h1 e.1.symm).1; omega
    | some ad => exact ⟨ad, rfl⟩
  obtain ⟨K, hK⟩ : ∃ K, K = (wb s.wr s.wt b).length := ⟨_, rfl⟩
  have HKE := Hid.mk' hK
  have HKB : Hid (K ≤ 100000) := by
    show K ≤ 100000
    have h1 : (wb s.wr s.wt b).length ≤ s.wt.length := List.length_filter_le _ _
    have h2 : s.wt.length ≤ s.wr.length := rising_len s.wt 0 _ hok.wt (fun i hi => ⟨Nat.zero_le _, hok.wl i hi⟩)
    omega
  clear h hok hu hb hlk hrow hM hM2 hM3 hme hb65 hm hc ha hv hblk hx hK
  go_enter Try.func27, Try.ntmps27
  go_wp2_with fail
  refine Calls.mono HHA.out ?_
  rintro e w ⟨rfl, rfl⟩
  go_upto_region 7 with fail
  clear c6
  refine region_chain [([0, 1, 2, 3, 4, 5, 6, 7, 8, 9, 10, 11, 12, 13, 14, 15], 16), ([], 17), ([], 18)] [] (But (fun k => vr.ownBlock = some k) w) (Grow w) (by kernel_rfl) (by kernel_rfl) (fun _ _ h k => h.trans k) (fun _ h => h.mono (fun _ _ h => h.elim)) ((But.refl _ w).drew) ?_
  intro ι hne X hX
  have c1 : ∀ x, (X x).cell? ⟨gd, 1, none⟩ = some (.slice aw m cw) := fun x => (HBK.out.but (hX x) (fun e => (HND.out gd e).1 rfl)).cell 1
  have c2 : ∀ x, (X x).cell? ⟨gd, 2, none⟩ = some (.map (some bm)) := fun x => (HBK.out.but (hX x) (fun e => (HND.out gd e).1 rfl)).cell 2
  iterate 10 (refine still_step rfl (fun K hK => ?_); go_simp; refine hK _ ?_; clear hK K)
  refine still_val rfl vr rfl (fun x => exec_lookup rfl rfl rfl (HLK.out _ _ (hX x) (fun e => (HND.out bm e).2 rfl))) ?_
  intro K hK; go_simp; refine hK _ ?_; clear hK K
  iterate 5 (refine still_step rfl (fun K hK => ?_); go_simp; refine hK _ ?_; clear hK K)
  refine still_nil ?_
  clear c1 c2 hX hne
  refine turn_run rfl rfl (fun u w' => Grow w w' ∧ ∃ g, u = .slice (some ⟨g, 0, none⟩) 1 1 ∧ Blk w' g 3 [.int .i64 (m : Int)]) (fun _ => But (fun k => vr.ownBlock = some k) w) ?_ (fun _ _ h => h.1.mono (fun _ _ h => h.elim)) (.inr (fun _ _ h => h)) ?_ ?_
  · rintro u w4 w5 ⟨h1, g, h2, h3⟩ k
    exact ⟨h1.trans k, g, h2, h3.but k (fun h => h)⟩
  · intro w4 h4
    refine turn_row1 (v := .int .i64 (m : Int)) Try.underlying33 infI (by decide) (by decide) rfl rfl rfl ⟨h4.trans ((But.refl _ w4).alloc _), _, rfl, ?_⟩
    exact Blk.new (L := [.int .i64 (m : Int)]) rfl
  rintro u ⟨wq, -, gn, rfl, -⟩ Y hY
  clear wq
  go_simp
  refine hY _ ?_
  clear hY Y
  intro ι hne X hX
  refine still_nil ?_
  clear hX hne
  refine turn_run rfl rfl (fun u w' => But (fun k => vr.ownBlock = some k) w w' ∧ w'.ownsRow 0 3 1 u (K + 1) (ints (wb s.wr s.wt b) ++ [.int .i64 (m : Int)]) ∧ (∀ k, u.ownBlock = some k → vr.ownBlock = some k ∨ w.heap.size ≤ k) ∧ (∀ k, u.ownBlock = some k → k < w'.heap.size)) (fun _ => But (fun k => vr.ownBlock = some k) w) ?_ (fun _ _ h => h.1) (.inr (fun _ _ h => h)) ?_ ?_
  · rintro u w4 w5 ⟨h1, h2, h3, h4⟩ k
    exact ⟨h1.trans (k.mono (fun _ _ h => h.elim)), ownsRow_grow h2 k, h3, fun j hj => Nat.lt_of_lt_of_le (h4 j hj) k.size⟩
  · rintro w4 ⟨h1, g', e9, h2⟩
    cases e9
    refine turn_append (v := vr) (n := K) (xs := ints (wb s.wr s.wt b)) (news := [.int .i64 (m : Int)]) Try.underlying33 infI rfl (by decide) rfl rfl (by rw [HKE.out]; exact ownsRow_grow HROW.out.own h1) rfl (by simp) (fun j u hj => h2.cells0 j u hj) (fun u hu => by rw [show u = .int .i64 (m : Int) by simpa using hu]; rfl) (by have := HKB.out; omega) (by decide) ?_
    intro v' w5 hap
    refine ⟨(h1.mono (fun _ _ h => h.elim)).trans hap.but, hap.own, fun j hj => ?_, hap.lt⟩
    rcases hap.at' with e | e
    · exact .inl (by rw [← e]; exact hj)
    · rw [e] at hj
      cases hj
      exact .inr h1.size
  rintro u ⟨wq, -, hov, -⟩ Y hY
  clear hov wq
  go_simp
  refine hY _ ?_
  clear hY Y
  intro ι hne X hX
  refine still_nil ?_
  clear hX hne
  refine turn_run rfl rfl (fun _ w' => WMid w own bm s b xs w') (fun _ _ => True) (fun _ _ _ h k => h.grow k) (fun _ _ _ => trivial) (.inl (by kernel_rfl)) ?_ ?_
  · rintro w4 ⟨h1, h2, h3, h4⟩
    have hMq := HM.out.but h1 (fun e => (HND.out bm e).2 rfl)
    obtain ⟨w5, M', hr, hM', hbt, hsz, hin, hot⟩ := hMq.put (v := u) keyI Try.underlying76 (keyOfI b HB65.out)
    refine turn_put rfl rfl rfl rfl hr ?_
    have k1 : But (fun k => own k = .row b ∨ k = bm) w w5 := (h1.mono (fun k _ e => .inl (HRT.out k e))).trans (hbt.mono (fun k _ e => .inr e))
    have hEx : Ext own (tagV own u (.row b)) := Ext.tagV (fun k hk => (h3 k hk).elim (fun e => .inr (HRT.out k e)) (fun e => .inl (HH.out.top k e)))
    have hTop : Top w5 (tagV own u (.row b)) := (HH.out.top.grow k1.size).tagV (fun k hk => by have := h4 k hk; omega)
    refine ⟨k1, tagV own u (.row b), hEx, (Fresh.refl w own).tagV (fun k hk => (h3 k hk).elim (fun e => .inr (HRT.out k e)) .inl), hTop, ?_⟩
    refine WtM.add (v := u) HOK.out.wl HB65.out HM2.out HM3.out hM' hin hot k1 HH.out.mat hEx ⟨?_, fun k hk => tagV_own hk⟩
    rw [← HME.out, ← HKE.out]
    exact ownsRow_but h2 hbt (fun j hj e => by
      rcases h3 j hj with h5 | h5
      · exact (HND.out j h5).2 e
      · have := HM.out.lt; omega)
  rintro v5 - Y hY
  go_simp
  refine hY _ ?_
  clear hY Y
  intro ι hne X hX
  refine still_nil ?_
  clear hX hne
  intro w1 hmid
  have HMID := Hid.mk' hmid
  have HB1 : Hid (Blk w1 gd 79 [.slice (some ⟨gs, 0, none⟩) s.st.length s.st.length, .slice aw m cw, .map (some bm), vi, .int .i64 (s.cnt : Int), .int .i64 (s.arm : Int), .bool s.up]) := HBK.out.but hmid.k1 (fun e => by
    rcases e with e | e
    · rw [HH.out.tag] at e; cases e
    · have := HH.out.mat; rw [← e, HH.out.tag] at this; cases this)
  have HV1 : Hid (Bs w1 (.slice (some ad) 256 cap) xs) := (HV.out.but hmid.k1 (fun j hj e => by
    have hj : own j = .none := hj
    rcases e with e | e
    · rw [e] at hj; cases hj
    · rw [e, HH.out.mat] at hj; cases hj)).1
  have HWR1 : Hid (w1.ownsRow 0 83 257 (.slice aw m cw) m (s.wr.flatMap wcell)) := by
    have h1 := HH.out.wri.own
    rw [← HME.out] at h1
    exact ownsRow_but h1 hmid.k1 (fun j hj e => by
      have h2 : own j = .wri := HH.out.wri.inF j (by rw [← HME.out]; exact hj)
      rcases e with e | e
      · rw [h2] at e; cases e
      · rw [e, HH.out.mat] at h2; cases h2)
  obtain ⟨N, hN⟩ : ∃ N, N = (u8s xs).toArray := ⟨_, rfl⟩
  have HNE := Hid.mk' hN
  have HBB := Hid.mk' (build_write (b : Int) N (by rw [hN]; simp [u8s, HX.out]))
  obtain ⟨B, hB⟩ : ∃ B, B = (wcell (b, xs)).toArray := ⟨_, rfl⟩
  have HBE := Hid.mk' hB
  rw [show (.int .i64 (b : Int) :: N.toList : List Value) = wcell (b, xs) by rw [hN]; rfl, ← hB] at HBB
  have HPL : Hid ((wcell (b, xs)).length = 257) := wcell_len HWF.out
  have HVE : Hid (¬ (.slice aw m cw : Value).ownBlock = some gd) := HWD.out
  have HVN : Hid (∀ k, (.slice aw m cw : Value).ownBlock = some k → own k = .wri) := fun k hk => HH.out.wri.inF k (by rw [← HME.out]; exact hk)
  have HVS : Hid (∀ (R : Nat → Prop) w', But R w1 w' → (∀ k, R k → own k = .wri) → ∀ c u, (u8s xs)[c]? = some u → w'.cell? (ad.add c) = some u) := fun R w' k hR c u hc => by
    have h1 : Bf w1 (Is own .none) (.slice (some ad) 256 cap) xs := ⟨HV1.out, HV.out.2⟩
    exact (h1.but k (fun j hj e => by have hj : own j = .none := hj; rw [hR j e] at hj; cases hj)).1.cells ad rfl c u hc
  clear hmid hN hB HM HM2 HM3 HLK HROW HRT HND HKE HKB K HV
  go_upto_region 8 with fail
  refine region_chain [([0, 1, 2, 3, 4, 5, 6, 7, 8, 9], 10), ([], 11), ([12, 13], 14)] [] (But (fun k => (.slice aw m cw : Value).ownBlock = some k) w1) (Grow w1) (by kernel_rfl) (by kernel_rfl) (fun _ _ h k => h.trans k) (fun _ h => h.mono (fun _ _ h => h.elim)) ((But.refl _ w1).drew) ?_
  intro ι hne X hX
  have c1 : ∀ x, (X x).cell? ⟨gd, 1, none⟩ = some (.slice aw m cw) := fun x => (HB1.out.but (hX x) HVE.out).cell 1
  iterate 7 (refine still_step rfl (fun K hK => ?_); go_simp; refine hK _ ?_; clear hK K)
  refine still_val rfl (.pointer (some ad)) rfl (fun x => exec_arrayAt Try.underlying81 rfl rfl (Nat.le_refl _)) ?_
  intro K hK; go_simp; refine hK _ ?_; clear hK K
  refine still_val rfl (.agg N) rfl (fun x => by rw [HNE.out]; exact run_load_arr Try.underlying81 i256 (HVS.out _ _ (hX x) HVN.out) HX.out rfl rfl) ?_
  intro K hK; go_simp; refine hK _ ?_; clear hK K
  refine still_val rfl (.agg B) rfl (fun x => exec_build _ [_, _] rfl [(0, .int .i64 (b : Int)), (1, .agg N)] rfl _ (HBB.out _)) ?_
  intro K hK; go_simp; refine hK _ ?_; clear hK K
  refine still_nil ?_
  clear c1 hX hne
  refine turn_run rfl rfl (fun u w' => Grow w1 w' ∧ ∃ g, u = .slice (some ⟨g, 0, none⟩) 1 1 ∧ Blk w' g 83 (wcell (b, xs))) (fun _ => But (fun k => (.slice aw m cw : Value).ownBlock = some k) w1) ?_ (fun _ _ h => h.1.mono (fun _ _ h => h.elim)) (.inr (fun _ _ h => h)) ?_ ?_
  · rintro u w4 w5 ⟨h1, g, h2, h3⟩ k
    exact ⟨h1.trans k, g, h2, h3.but k (fun h => h)⟩
  · intro w4 h4
    refine turn_row1 (v := .agg B) Try.underlying75 infW (by decide) (by decide) rfl rfl (by rw [HBE.out]; show (wcell (b, xs)).toArray.size = 257; simpa using HPL.out) ⟨h4.trans ((But.refl _ w4).alloc _), _, rfl, ?_⟩
    rw [HBE.out]
    exact Blk.new rfl
  rintro u ⟨wq, -, gn, rfl, -⟩ Y hY
  clear wq
  go_simp
  refine hY _ ?_
  clear hY Y
  intro ι hne X hX
  refine still_nil ?_
  clear hX hne
  refine turn_run rfl rfl (fun u w' => But (fun k => (.slice aw m cw : Value).ownBlock = some k) w1 w' ∧ w'.ownsRow 0 83 257 u (m + 1) (s.wr.flatMap wcell ++ wcell (b, xs)) ∧ (∀ k, u.ownBlock = some k → (.slice aw m cw : Value).ownBlock = some k ∨ w1.heap.size ≤ k) ∧ (∀ k, u.ownBlock = some k → k < w'.heap.size)) (fun _ => But (fun k => (.slice aw m cw : Value).ownBlock = some k) w1) ?_ (fun _ _ h => h.1) (.inr (fun _ _ h => h)) ?_ ?_
  · rintro u w4 w5 ⟨h1, h2, h3, h4⟩ k
    exact ⟨h1.trans (k.mono (fun _ _ h => h.elim)), ownsRow_grow h2 k, h3, fun j hj => Nat.lt_of_lt_of_le (h4 j hj) k.size⟩
  · rintro w4 ⟨h1, g', e9, h2⟩
    cases e9
    refine turn_append (v := .slice aw m cw) (news := wcell (b, xs)) Try.underlying75 infW (by kernel_rfl) (by decide) rfl rfl (ownsRow_grow HWR1.out h1) rfl (by rw [HPL.out]) (fun j u hj => h2.cells0 j u hj) (wcell_one _) (by have := HMB.out; have := HME.out; omega) (by decide) ?_
    intro v' w5 hap
    refine ⟨(h1.mono (fun _ _ h => h.elim)).trans hap.but, hap.own, fun j hj => ?_, hap.lt⟩
    rcases hap.at' with e | e
    · exact .inl (by rw [← e]; exact hj)
    · rw [e] at hj
      cases hj
      exact .inr h1.size
  rintro v2 ⟨wq, -, hov, -⟩ Y hY
  have HV2 : Hid (v2.oneCell' = true) := ownsRow_one hov
  clear hov wq
  go_simp
  refine hY _ ?_
  clear hY Y
  intro ι hne X hX
  iterate 2 (refine still_step rfl (fun K hK => ?_); go_simp; refine hK _ ?_; clear hK K)
  refine still_nil ?_
  clear hX hne
  refine turn_run rfl rfl (fun _ w' => DvTo w own gd (s.write b xs) w') (fun _ _ => True) (fun _ _ _ h k => h.grow k) (fun _ _ _ => trivial) (.inl (by kernel_rfl)) ?_ ?_
  · rintro w4 ⟨h1, h2, h3, h4⟩
    have hbk := HB1.out.but h1 HVE.out
    have hne2 : ¬ v2.ownBlock = some gd := fun e => by
      rcases h3 gd e with h | h
      · exact HVE.out h
      · have := HB1.out.lt; omega
    refine turn_store (by kernel_rfl) rfl rfl rfl HV2.out hbk (by simp) ?_
    obtain ⟨own1, q1, q2, q3, q4⟩ := HMID.out.ex
    refine HH.out.wrote3 HB.out HWF.out HMID.out.k1 q1 q2 q3 q4 (v2 := v2) ?_ ?_ ?_ ?_ (hbk.set 1 v2)
    · rw [← HME.out]
      exact (h1.mono (fun _ _ h => .inl h)).trans ((But.set1 _ _ _ _).mono (fun _ _ h => .inr h))
    · rw [← HME.out]
      exact ownsRow_but h2 (But.set1 _ _ _ _) (fun j hj e => hne2 (by rw [← e]; exact hj))
    · rw [← HME.out]; exact h3
    · intro j hj; have := h4 j hj; simpa using this
  rintro v5 - Y hY
  go_simp
  refine hY _ ?_
  clear hY Y
  intro ι hne X hX
  refine still_nil ?_
  clear hX hne
  intro w5 h5
  have HAC := Hid.mk' (HACC.out w5 h5)
  clear h5 HACC
  go_wp2_with fail
  refine Calls.mono HAC.out ?_
  rintro e w6 ⟨rfl, h6⟩
  have H6 := Hid.mk' h6
  clear h6 HAC
  by_cases harm : s.arm = 1
  · have e1 : (s.arm == 1) = true := by simp [harm]
    go_wp2
    go_ret
    exact ⟨rfl, H6.out⟩
  · have e1 : (s.arm == 1) = false := by simpa using harm
    go_wp2
    go_ret
    exact ⟨rfl, H6.out⟩
end Go.Proofs.Ytfgcbcopgikodaa
/- Operations on maps, one by one. -/
namespace Go.Proofs.Ytfgcbcopgikodaa
open Go.RowKit

section
variable {w w' : World} {o : Oper} {ρ : Operand → Value}
theorem exec_range {t : TypeId} {x : Operand} {u r : Value} (ho : o.op = .range t x) (hx : ρ x = u) (h : (Instr.range t u).run Try.prog w = .ok r w') : (execOp ρ o).run Try.prog w = .ok (.value r) w' := by
  unfold execOp
  simp only [ho, hx, Sem.run_bind, h, Result.andThen_ok, Sem.run_pure]
theorem exec_next {x : Operand} {u r : Value} {ty : TypeId} (ho : o.op = .next x false) (hx : ρ x = u) (hty : o.type = ty) (h : (Instr.next u false ty).run Try.prog w = .ok r w') : (execOp ρ o).run Try.prog w = .ok (.value r) w' := by
  unfold execOp
  simp only [ho, hx, hty, Sem.run_bind, h, Result.andThen_ok, Sem.run_pure]
theorem exec_entry {x : Operand} {u r : Value} (ho : o.op = .entry x) (hx : ρ x = u) (h : (Instr.entry u).run Try.prog w = .ok r w') : (execOp ρ o).run Try.prog w = .ok (.value r) w' := by
  unfold execOp
  simp only [ho, hx, Sem.run_bind, h, Result.andThen_ok, Sem.run_pure]
theorem exec_clear {t : TypeId} {x : Operand} {u r : Value} (ho : o.op = .call { callee := .builtin .clear, args := #[x], argTypes := #[t] }) (hx : ρ x = u) (h : (Builtin.clear_ #[t] o.type #[u]).run Try.prog w = .ok r w') : (execOp ρ o).run Try.prog w = .ok (.value r) w' := by
  unfold execOp
  simp only [ho, resolve, invoke, builtin, Sem.run_bind, Sem.run_pure, Result.andThen_ok, List.map_toArray, List.map_cons, List.map_nil, hx, h]
theorem exec_delete {t k : TypeId} {x y : Operand} {u v r : Value} (ho : o.op = .call { callee := .builtin .delete, args := #[x, y], argTypes := #[t, k] }) (hx : ρ x = u) (hy : ρ y = v) (h : (Builtin.delete_ #[t, k] o.type #[u, v]).run Try.prog w = .ok r w') : (execOp ρ o).run Try.prog w = .ok (.value r) w' := by
  unfold execOp
  simp only [ho, resolve, invoke, builtin, Sem.run_bind, Sem.run_pure, Result.andThen_ok, List.map_toArray, List.map_cons, List.map_nil, hx, hy, h]
end
/-- The act of a goal brought down. -/
theorem act_down {P : Program} {c : Code} {Q : Exit → Act → World → Prop} {a : Act} {w : World} (h : ∀ K : Act → Prop, (∀ a, Code.wp P c Q a w → K a) → K a) : Code.wp P c Q a w := h _ (fun _ h => h)
/-- How many an iterator has left. -/
def leftN (w : World) (r b : Nat) : Nat := match w.heap[r]?, w.heap[b]? with
  | some (.mapIter _ _ seen _), some (.map es _) => (leftOf es seen).size
  | _, _ => 0
theorem Rg.left {w : World} {r b : Nat} {M L : List (Value × Value)} (h : Rg w r b M L) : leftN w r b = L.length := by
  obtain ⟨es, clock, seen, c0, h1, -, h2, -, -, -, rfl⟩ := h.ex
  unfold leftN
  rw [h1, h2]
  simp
end Go.Proofs.Ytfgcbcopgikodaa
/- Flush. -/
namespace Go.Proofs.Ytfgcbcopgikodaa
open Go.RowKit

theorem DvTo.next {w w1 w2 : World} {own own1 : Owner} {gd : Nat} {s2 : Dev} (k : But (fun b => own b ≠ .none) w w1) (f : Fresh w own own1) (h : DvTo w1 own1 gd s2 w2) : DvTo w own gd s2 w2 := by
  obtain ⟨own2, f2, d2⟩ := h.ex
  refine ⟨k.then (S := fun k => own1 k ≠ .none) h.but (fun k hk e h0 => ?_), own2, fun k' hk => ?_, d2⟩
  · by_cases hq : own1 k = own k
    · exact e (hq.trans h0)
    · have := f k hq; omega
  · by_cases hq : own2 k' = own1 k'
    · exact f k' (by rw [← hq]; exact hk)
    · exact Nat.le_trans k.size (f2 k' hq)
/-- What waits is stored. -/
def Dev.flushed (s : Dev) : Dev := { s with st := (List.range s.st.length).map s.now, wt := [] }
/-- Stored so far, with these left. -/
structure FlI (s : Dev) (st' : List (List Nat)) (L : List (Value × Value)) : Prop where
  len : st'.length = s.st.length
  wf : ∀ c ∈ st', wf256 c
  at' : ∀ b : Nat, b < s.st.length → (¬ ∃ v, ((.int .i64 (b : Int) : Value), v) ∈ L) → st'.getD b [] = s.now b
theorem now_none {s : Dev} {b : Nat} (h : wb s.wr s.wt b = []) : s.now b = s.st.getD b [] := by unfold Dev.now; rw [h]; rfl
theorem now_st {s : Dev} {b : Nat} (st' : List (List Nat)) (h : wb s.wr s.wt b ≠ []) : ({ s with st := st' } : Dev).now b = s.now b := by
  unfold Dev.now
  show (match (wb s.wr s.wt b).getLast? with | some i => (s.wr.getD i d0).2 | none => st'.getD b []) = _
  cases hg : (wb s.wr s.wt b).getLast? with
  | none => exact absurd (List.getLast?_eq_none_iff.1 hg) h
  | some i => rfl
theorem FlI.step {s : Dev} {st' : List (List Nat)} {L L' : List (Value × Value)} {b : Nat} {v : Value} (h : FlI s st' L) (hok : s.ok) (hb : b < s.st.length) (hp : L.Perm ((.int .i64 (b : Int), v) :: L')) : FlI s (st'.set b (s.now b)) L' := by
  refine ⟨by rw [List.length_set]; exact h.len, fun c hc => ?_, fun c hc hn => ?_⟩
  · rcases List.mem_or_eq_of_mem_set hc with hc | hc
    · exact h.wf c hc
    · rw [hc]; exact hok.now hb
  · by_cases hcb : b = c
    · subst hcb
      have : b < st'.length := by rw [h.len]; exact hb
      simp [List.getD, this]
    · have e : (st'.set b (s.now b)).getD c [] = st'.getD c [] := by simp [List.getD, List.getElem?_set_ne hcb]
      rw [e]
      refine h.at' c hc (fun ⟨u, hu⟩ => hn ⟨u, ?_⟩)
      rcases List.mem_cons.1 (hp.mem_iff.1 hu) with e2 | e2
      · exfalso
        have := (Prod.mk.inj e2).1
        simp only [Value.int.injEq, true_and] at this
        omega
      · exact e2
theorem FlI.done {s : Dev} {st' : List (List Nat)} (h : FlI s st' []) : st' = (List.range s.st.length).map s.now := by
  apply List.ext_getElem?
  intro i
  by_cases hi : i < s.st.length
  · have h1 := h.at' i hi (fun ⟨v, hv⟩ => absurd hv List.not_mem_nil)
    have h2 : i < st'.length := by rw [h.len]; exact hi
    rw [List.getElem?_eq_getElem h2]
    simp [List.getD, h2] at h1
    simp [hi, h1]
  · rw [List.getElem?_eq_none (by rw [h.len]; omega), List.getElem?_eq_none (by simp; omega)]
section
variable {w : World} {own : Owner} {gd : Nat} {s : Dev}
theorem flush_down (h : Dv w own gd s) (hu : s.up = false) :
    Calls Try.prog 17 #[.pointer (some ⟨gd, 0, none⟩)] w fun e w' => e = .returned (.int .i64 7) ∧ w' = w := by
  obtain ⟨gs, vw, bm, vi, h⟩ := h
  have c6 : w.cell? ⟨gd, 6, none⟩ = some (.bool s.up) := h.blk.cell 6
  rw [hu] at c6
  clear h hu
  go_enter Try.func17, Try.ntmps17
  go_wp2
  go_ret
  exact ⟨rfl, rfl⟩
theorem flush_gone (h : Dv w own gd s) (hu : s.up = true) (hc : s.cnt < 4611686018427387904) (ha : s.arm = 1) :
    Calls Try.prog 17 #[.pointer (some ⟨gd, 0, none⟩)] w fun e w' => e = .returned (.int .i64 7) ∧ DvTo w own gd s.acc w' := by
  have HAC := Hid.mk' (access_any h hu hc (by omega))
  rw [show (s.arm == 1) = true by simp [ha]] at HAC
  obtain ⟨gs, vw, bm, vi, h⟩ := h
  have c6 : w.cell? ⟨gd, 6, none⟩ = some (.bool s.up) := h.blk.cell 6
  rw [hu] at c6
  clear h hu ha hc
  go_enter Try.func17, Try.ntmps17
  go_wp2_with fail
  refine Calls.mono HAC.out ?_
  rintro e w1 ⟨rfl, h1⟩
  have H1 := Hid.mk' h1
  clear h1
  go_wp2
  go_ret
  exact ⟨rfl, H1.out⟩
set_option maxRecDepth 100000 in
set_option maxHeartbeats 4000000 in
theorem flush_any (h : Dv w own gd s) (hu : s.up = true) (hc : s.cnt < 4611686018427387904) (ha : s.arm ≤ 9223372036854775807) (ha1 : s.arm ≠ 1) :
    Calls Try.prog 17 #[.pointer (some ⟨gd, 0, none⟩)] w fun e w' => e = .returned (.int .i64 0) ∧ DvTo w own gd s.acc.flushed w' := by
  have HAC := Hid.mk' (access_any h hu hc ha)
  rw [show (s.arm == 1) = false by simpa using ha1] at HAC
  obtain ⟨gs, vw, bm, vi, h⟩ := h
  have c6 : w.cell? ⟨gd, 6, none⟩ = some (.bool s.up) := h.blk.cell 6
  rw [hu] at c6
  clear h hu ha hc ha1
  go_enter Try.func17, Try.ntmps17
  go_wp2_with fail
  refine Calls.mono HAC.out ?_
  rintro e w1 ⟨rfl, h1⟩
  obtain ⟨own1, f1, gs, vw, bm, vi, d1⟩ := h1.ex
  obtain ⟨s1, hs1⟩ : ∃ s1, s1 = s.acc := ⟨_, rfl⟩
  rw [← hs1] at d1
  obtain ⟨M, hM, hM2, hM3⟩ := d1.map.ex
  obtain ⟨w2, hrg, hg2, hsz2, hR2⟩ := hM.range Try.underlying76
  obtain ⟨r, hr⟩ : ∃ r, r = w1.heap.size := ⟨_, rfl⟩
  rw [← hr] at hrg hR2
  have HRW := Hid.mk' hr
  have HRG := Hid.mk' hrg
  have HS1 := Hid.mk' hs1
  have HF1 := Hid.mk' f1
  have HK1 := Hid.mk' h1.but
  have HM2 : Hid (∀ p ∈ M, ∃ b : Nat, p.1 = .int .i64 (b : Int) ∧ b < s1.st.length ∧ wb s1.wr s1.wt b ≠ []) := fun p hp => by
    obtain ⟨b, e1, e2, e3, e4⟩ := hM2 p hp
    refine ⟨b, e1, ?_, e3⟩
    obtain ⟨i, hi⟩ := List.exists_mem_of_ne_nil _ e3
    obtain ⟨h5, h6⟩ := List.mem_filter.1 hi
    have h7 := d1.ok.wl i h5
    have h8 := (d1.ok.wr (s1.wr.getD i d0) (by rw [List.getD_eq_getElem?_getD, List.getElem?_eq_getElem h7]; exact List.getElem_mem h7)).1
    have h9 : (s1.wr.getD i d0).1 = b := by simpa using h6
    rw [h9] at h8; exact h8
  have HM := Hid.mk' hM
  have HOR : Hid (own1 r = .none) := d1.top r (by omega)
  have HOK := Hid.mk' d1.ok
  have HD2 := Hid.mk' (d1.but hg2 (fun _ _ h => h))
  have HR2 := Hid.mk' hR2
  have HG2 : Hid (But (fun b => own1 b ≠ .none) w1 w2) := hg2.mono (fun _ _ h => h.elim)
  have HI : Hid (FlI s1 s1.st M) := ⟨rfl, d1.ok.st, fun b hb hn => (by
    by_cases he : wb s1.wr s1.wt b = []
    · exact (now_none he).symm
    · exact absurd (hM3 b he) hn)⟩
  have c2 : w1.cell? ⟨gd, 2, none⟩ = some (.map (some bm)) := d1.blk.cell 2
  have HNG : Hid (r ≠ gd) := fun e => by have := HOR.out; rw [e, d1.tag] at this; cases this
  have HNS : Hid (r ≠ gs) := fun e => by have := HOR.out; rw [e, d1.stt] at this; cases this
  clear h1 d1 hM hM2 hM3 hrg hg2 hsz2 hR2 hr hs1 f1 HAC c6
  go_wp2_with (first
    | (refine wpList_run rfl (exec_range rfl rfl HRG.out) ?_)
    | fail)
  clear c2
  refine act_down (fun K hK => ?_)
  go_simp
  refine hK _ ?_
  clear hK K
  go_loopw [3] (fun _ wr => ∃ L st', Rg wr r bm M L ∧ DvM wr own1 gd { s1 with st := st' } gs vw bm vi ∧ FlI s1 st' L ∧ But (fun b => own1 b ≠ .none) w1 wr) (fun _ wr => leftN wr r bm)
  case atStart => exact ⟨M, s1.st, HR2.out, HD2.out, HI.out, HG2.out⟩
  case round =>
    clear HR2 HD2 HI HG2 HRG
    obtain ⟨L, st', hR, hD, hI, hB⟩ := hrel
    rcases hR.next (P := Try.prog) 0 with ⟨rfl, hnx⟩ | ⟨p, L', w3, hp, hperm, hnx, hb3, hsz3, hR3, hent⟩
    · have HNX := Hid.mk' hnx
      have hst := hI.done
      subst hst
      have HD := Hid.mk' hD
      have HB := Hid.mk' hB
      obtain ⟨M', hM', -, -⟩ := hD.map.ex
      obtain ⟨w4, hcl, hM4, hb4, -⟩ := hM'.clear (t := 76) Try.underlying76 0
      have HCL := Hid.mk' hcl
      have HFIN : Hid (DvTo w own gd s.acc.flushed w4) := by
        refine DvTo.next HK1.out HF1.out ⟨HB.out.trans (hb4.mono (fun b _ e => by rw [e, hD.mat]; decide)), own1, Fresh.refl _ _, gs, vw, bm, vi, ?_⟩
        have h5 := hD.maps (wt' := []) hb4 ⟨[], hM4, fun p hp => absurd hp List.not_mem_nil, fun b hb => absurd rfl hb⟩ .nil (fun i hi => absurd hi List.not_mem_nil)
        rw [← HS1.out]
        exact h5
      have c2 : wr.cell? ⟨gd, 2, none⟩ = some (.map (some bm)) := hD.blk.cell 2
      clear hnx hI hD hB hM' hcl hM4 hb4 hR
      go_wp2_with (first
        | (refine wpList_run rfl (exec_next rfl rfl rfl HNX.out) ?_)
        | (refine wpList_run rfl (exec_clear rfl rfl HCL.out) ?_)
        | fail)
      go_ret
      exact ⟨rfl, HFIN.out⟩
    · have HNX := Hid.mk' hnx
      have HENT := Hid.mk' hent
      obtain ⟨pk, pv⟩ := p
      obtain ⟨b, e1, hb, hwb⟩ := HM2.out _ hp
      simp only at e1
      subst e1
      have hD3 := hD.but hb3 (fun c hc e => hc (by rw [e]; exact HOR.out))
      have HD3 := Hid.mk' hD3
      have HR3 := Hid.mk' hR3
      have HLF : Hid (leftN wr r bm = L'.length + 1) := by
        show _ = _
        rw [hR.left, hperm.length_eq, List.length_cons]
      have HI3 := Hid.mk' (hI.step HOK.out hb hperm)
      have HB3 : Hid (But (fun b => own1 b ≠ .none) w1 w3) := hB.then hb3 (fun i hi e => absurd HRW.out (by omega))
      have hnow : ({ s1 with st := st' } : Dev).now b = s1.now b := now_st st' hwb
      have hlen : st'.length = s1.st.length := hI.len
      have HRE : Hid (∀ w4, Grow w3 w4 → Calls Try.prog 51 #[.pointer (some ⟨gd, 0, none⟩), .int .i64 (b : Int)] w4 fun e w' => e = .returned (.agg (u8s (s1.now b)).toArray) ∧ Grow w4 w') := fun w4 h4 => by
        rw [← hnow]
        exact reads_any ⟨gs, vw, bm, vi, HD3.out.but h4 (fun _ _ h => h)⟩ (by show b < st'.length; rw [hlen]; exact hb)
      obtain ⟨D, hDe⟩ : ∃ D, D = s1.now b := ⟨_, rfl⟩
      have HWF : Hid (wf256 D) := by rw [hDe]; exact HOK.out.now hb
      rw [← hDe] at HRE HI3
      obtain ⟨N, hN⟩ : ∃ N, N = (u8s D).toArray := ⟨_, rfl⟩
      have HNE := Hid.mk' hN
      rw [← hN] at HRE
      obtain ⟨n, hn⟩ : ∃ n, n = st'.length := ⟨_, rfl⟩
      have HN := Hid.mk' hn
      have HBL : Hid (b < st'.length) := by show _ < _; rw [hlen]; exact hb
      have hbi : (b : Int) < (n : Int) := by rw [hn, hlen]; omega
      have HST : Hid (∀ c ∈ st', wf256 c) := hI.wf
      clear hnx hent hD hI hB hR hp hperm hb3 hsz3 hR3 hD3 hb hwb hnow hDe hN hn hlen
      go_upto_region 8 with (first
        | (refine wpList_run rfl (exec_next rfl rfl rfl HNX.out) ?_)
        | (refine wpList_run rfl (exec_entry rfl rfl HENT.out) ?_)
        | fail)
      refine region_chain [([0, 1, 2, 3, 4, 5, 6, 7, 8], 9)] [] (Grow w3) (Grow w3) (by kernel_rfl) (by kernel_rfl) (fun _ _ h k => h.trans k) (fun _ h => h) ((But.refl _ w3).drew) ?_
      intro ι hne X hX
      have c0 : ∀ x, (X x).cell? ⟨gd, 0, none⟩ = some (.slice (some ⟨gs, 0, none⟩) n n) := fun x => by rw [HN.out]; exact (HD3.out.blk.but (hX x) (fun h => h)).cell 0
      iterate 7 (refine still_step rfl (fun K hK => ?_); go_simp; refine hK _ ?_; clear hK K)
      refine still_call rfl (.agg N) 51 #[.pointer (some ⟨gd, 0, none⟩), .int .i64 (b : Int)] rfl (fun x => by kernel_rfl) (fun x => HRE.out _ (hX x)) ?_
      intro K hK; go_simp; refine hK _ ?_; clear hK K
      iterate 1 (refine still_step rfl (fun K hK => ?_); go_simp; refine hK _ ?_; clear hK K)
      refine still_nil ?_
      clear c0 hX hne
      refine turn_run rfl rfl (fun _ w' => ∃ w5, But (· = gs) w3 w5 ∧ Blk w5 gs 81 ((st'.set b D).flatMap u8s) ∧ Grow w5 w') (fun _ _ => True) (fun _ w4 w5 ⟨w6, h1, h2, h3⟩ k => ⟨w6, h1, h2, h3.trans k⟩) (fun _ _ _ => trivial) (.inl (by kernel_rfl)) ?_ ?_
      · intro w4 h4
        have hb0 := HD3.out.sto.but h4 (fun h => h)
        have hb0 : Blk w4 gs 81 (st'.flatMap u8s) := hb0
        rw [flat_cut HBL.out] at hb0
        have hold : (u8s (st'.getD b [])).length = (u8s D).length := by
          rw [u8s_len, u8s_len, HWF.out.1]
          exact (HST.out _ (by rw [List.getD_eq_getElem?_getD, List.getElem?_eq_getElem HBL.out]; exact List.getElem_mem HBL.out)).1
        refine turn_cells (cs := u8s D) rfl rfl (by show Value.agg N = _; rw [HNE.out]) (by rw [i256, u8s_len, HWF.out.1]) (u8s_one _) hb0 (flat_pre HST.out (Nat.le_of_lt HBL.out)) hold ?_
        intro w5 hb5 hbut5
        refine ⟨w5, (h4.mono (fun _ _ h => h.elim)).trans hbut5, ?_, But.refl _ _⟩
        rw [flat_set HBL.out]; exact hb5
      · rintro v5 - Y hY
        go_simp
        refine hY _ ?_
        clear hY Y
        intro ι hne X hX
        refine still_nil ?_
        clear hX hne
        rintro w6 ⟨w5, h1, h2, h3⟩
        have HD6 := Hid.mk' ((HD3.out.store h1 h2 (by rw [List.length_set]) HI3.out.wf).but h3 (fun _ _ h => h))
        have HR6 := Hid.mk' ((HR3.out.but h1 HNS.out (fun e => by have := HD3.out.mat; rw [e, HD3.out.stt] at this; cases this)).but h3 (fun h => h) (fun h => h))
        have HB6 : Hid (But (fun b => own1 b ≠ .none) w1 w6) := (HB3.out.trans (h1.mono (fun c _ e => by rw [e, HD3.out.stt]; decide))).trans (h3.mono (fun _ _ h => h.elim))
        clear h1 h2 h3
        go_wp2
        exact ⟨⟨L', st'.set b D, HR6.out, HD6.out, HI3.out, HB6.out⟩, by rw [HR6.out.left, HLF.out]; omega⟩
end
end Go.Proofs.Ytfgcbcopgikodaa
/- New. -/
namespace Go.Proofs.Ytfgcbcopgikodaa
open Go.RowKit

/-- A device on which nothing was done. -/
def Dev.of (st : List (List Nat)) : Dev := ⟨st, [], [], [], 0, 0, true⟩
def Dev.fresh (n : Nat) : Dev := Dev.of (List.replicate n z256)
theorem z256_wf : wf256 z256 := ⟨List.length_replicate, fun z hz => by rw [(List.mem_replicate.1 hz).2]; decide⟩
theorem of_ok {st : List (List Nat)} (h1 : 1 ≤ st.length) (h2 : st.length ≤ 65536) (h3 : ∀ c ∈ st, wf256 c) : (Dev.of st).ok :=
  ⟨h1, h2, h3, fun _ he => absurd he List.not_mem_nil, .nil, fun _ hi => absurd hi List.not_mem_nil, fun _ hm => absurd hm List.not_mem_nil⟩
theorem infC : (Try.prog.info? 81).map (fun i => (i.zero, i.size, i.bytes)) = some (some (.agg (u8s z256).toArray), 256, 256) := by kernel_rfl
theorem flat_rep (n m : Nat) : (List.replicate n (List.replicate m 0)).flatMap u8s = u8s (List.replicate (n * m) 0) := by
  induction n with
  | zero => simp
  | succ n ih =>
    rw [List.replicate_succ, List.flatMap_cons, ih, Nat.succ_mul, Nat.add_comm, ← List.replicate_append_replicate]
    unfold u8s
    rw [List.map_append]
theorem made_zero (m k : Nat) (hm : 0 < m) : madeCells (u8s (List.replicate m 0)).toArray k = (u8s (List.replicate k 0)).toArray := by
  apply Array.ext
  · simp [madeCells, u8s]
  · intro i h1 h2
    have h3 : i % m < m := Nat.mod_lt _ hm
    simp [madeCells, u8s, h3]
theorem made_conts (n : Nat) : madeCells (Value.cells (.agg (u8s z256).toArray)) (n * 256) = ((List.replicate n z256).flatMap u8s).toArray := by
  unfold z256
  rw [flat_rep]
  exact made_zero 256 (n * 256) (by decide)
theorem make_conts (w : World) (n : Nat) (h : n ≤ 65536) : (Instr.makeSlice 74 (.int .i64 (n : Int)) (.int .i64 (n : Int))).run Try.prog w = .ok (.slice (some ⟨w.heap.size, 0, none⟩) n n) (w.alloc (.cells ((List.replicate n z256).flatMap u8s).toArray 81)) := by
  obtain ⟨i, hi, hz, hs, hby⟩ := info_parts infC
  have h1 := run_make (P := Try.prog) w 74 81 i _ Try.underlying74 hi hz .i64 .i64 (n : Int) (n : Int) (by omega) (Int.le_refl _) (by rw [hby]; omega) (by omega)
  have e : (n : Int).toNat * i.size = n * 256 := by rw [hs]; omega
  rw [e, made_conts] at h1
  exact h1
theorem exec_make {w w' : World} {o : Oper} {ρ : Operand → Value} {t : TypeId} {x y : Operand} {u v r : Value} (ho : o.op = .makeSlice t x y) (hx : ρ x = u) (hy : ρ y = v) (h : (Instr.makeSlice t u v).run Try.prog w = .ok r w') : (execOp ρ o).run Try.prog w = .ok (.value r) w' := by
  unfold execOp
  simp only [ho, hx, hy, Sem.run_bind, h, Result.andThen_ok, Sem.run_pure]
theorem mk_map (w : World) : (Instr.makeMap 76 none).run Try.prog w = .ok (.map (some w.heap.size)) (w.alloc (.map #[] 0)) := by
  simp [Instr.makeMap]
theorem exec_makeMap {w w' : World} {o : Oper} {ρ : Operand → Value} {t : TypeId} {r : Value} (ho : o.op = .makeMap t none) (h : (Instr.makeMap t none).run Try.prog w = .ok r w') : (execOp ρ o).run Try.prog w = .ok (.value r) w' := by
  unfold execOp
  simp only [ho, Option.map_none, Sem.run_bind, h, Result.andThen_ok, Sem.run_pure]
theorem built_dev (a : Addr) (n m b : Nat) (w : World) : (Instr.build 79 #[(0, .slice (some a) n m), (2, .map (some b)), (6, .bool true)]).run Try.prog w = .ok (.agg #[.slice (some a) n m, .slice none 0 0, .map (some b), .slice none 0 0, .int .i64 0, .int .i64 0, .bool true]) w := run_build w _ _ _ (by kernel_rfl)
theorem new_arg (w : World) (x : Int) (hx : ¬ (1 ≤ x ∧ x ≤ 65536)) :
    Calls Try.prog 25 #[.int .i64 x] w fun e w' => e = .returned (.tuple #[.pointer none, .int .i64 1]) ∧ w' = w := by
  by_cases h1 : x < 1
  · go_enter Try.func25, Try.ntmps25
    go_wp2
    exact bodyPost_ret (results_tmp2 rfl _ _ _) rfl ⟨rfl, rfl⟩
  · have h2 : 65536 < x := by omega
    clear hx
    go_enter Try.func25, Try.ntmps25
    go_wp2
    exact bodyPost_ret (results_tmp2 rfl _ _ _) rfl ⟨rfl, rfl⟩
/-- A device, new since w. -/
structure DvN (w0 w : World) (own : Owner) (gd : Nat) (s : Dev) : Prop where
  dv : Dv w own gd s
  grow : Grow w0 w
  new : ∀ b, own b ≠ .none → w0.heap.size ≤ b
theorem DvN.then {w0 w w1 : World} {own : Owner} {gd : Nat} {s : Dev} (h : DvN w0 w own gd s) (k : Grow w w1) : DvN w0 w1 own gd s := ⟨h.dv.grow k, h.grow.trans k, h.new⟩
theorem DvN.to {w0 w w1 : World} {own : Owner} {gd : Nat} {s s1 : Dev} (h : DvN w0 w own gd s) (k : DvTo w own gd s1 w1) : ∃ own1, DvN w0 w1 own1 gd s1 ∧ Fresh w own own1 := by
  obtain ⟨own1, h1, h2⟩ := k.ex
  refine ⟨own1, ⟨h2, h.grow.then k.but (fun i hi e => by have := h.new i e; omega), fun b hb => ?_⟩, h1⟩
  by_cases hq : own1 b = own b
  · exact h.new b (by rw [← hq]; exact hb)
  · exact Nat.le_trans h.grow.size (h1 b hq)
theorem DvN.fresh {w w1 w2 w3 : World} {g n : Nat} {st : List (List Nat)} {C : List Value} (hl : st.length = n) (h1 : 1 ≤ n) (h2 : n ≤ 65536) (h3 : ∀ c ∈ st, wf256 c) (hC : C = st.flatMap u8s) (hg : g = w.heap.size)
    (hw1 : w1 = w.alloc (.cells C.toArray 81)) (hw2 : w2 = w1.alloc (.map #[] 0)) (hw3 : w3 = w2.alloc (.cells #[.slice (some ⟨g, 0, none⟩) n n, .slice none 0 0, .map (some (g + 1)), .slice none 0 0, .int .i64 0, .int .i64 0, .bool true] 79)) : ∃ own, DvN w w3 own (g + 2) (Dev.of st) := by
  have s1 : w1.heap.size = g + 1 := by rw [hw1, hg]; simp
  have s2 : w2.heap.size = g + 2 := by rw [hw2]; simp [s1]
  have s3 : w3.heap.size = g + 3 := by rw [hw3]; simp [s2]
  have k12 : Grow w1 w2 := by rw [hw2]; exact (But.refl _ w1).alloc _
  have k23 : Grow w2 w3 := by rw [hw3]; exact (But.refl _ w2).alloc _
  have b1 : Blk w1 g 81 C := by rw [hw1]; exact Blk.new hg.symm
  have m2 : Mq Try.prog 3 w2 (g + 1) [] := by rw [hw2]; exact Mq.new (g + 1) s1
  have b3 : Blk w3 (g + 2) 79 [.slice (some ⟨g, 0, none⟩) n n, .slice none 0 0, .map (some (g + 1)), .slice none 0 0, .int .i64 0, .int .i64 0, .bool true] := by rw [hw3]; exact Blk.new (L := [.slice (some ⟨g, 0, none⟩) n n, .slice none 0 0, .map (some (g + 1)), .slice none 0 0, .int .i64 0, .int .i64 0, .bool true]) s2
  obtain ⟨own, o1, o2, o3, ho⟩ : ∃ own : Owner, own g = .sto ∧ own (g + 1) = .map ∧ own (g + 2) = .dev ∧ ∀ b, own b ≠ .none → g ≤ b ∧ b < g + 3 := by
    refine ⟨fun b => if b = g then .sto else if b = g + 1 then .map else if b = g + 2 then .dev else .none, by simp, by simp, by simp, fun b hb => ?_⟩
    by_cases e1 : b = g
    · omega
    · by_cases e2 : b = g + 1
      · omega
      · by_cases e3 : b = g + 2
        · omega
        · exact absurd (by simp [e1, e2, e3]) hb
  refine ⟨own, ⟨g, .slice none 0 0, g + 1, .slice none 0 0, ?_, o3, ?_, o1, ?_, RowOf.nil _ _ _ _, o2, ⟨[], m2.but k23 (fun h => h), fun p hp => absurd hp List.not_mem_nil, fun b hb => absurd rfl hb⟩, ⟨[], rfl, RowOf.nil _ _ _ _, fun e he => absurd he List.not_mem_nil⟩, of_ok (by omega) (by omega) h3⟩, ?_, fun b hb => by have := ho b hb; omega⟩
  · intro b hb
    by_cases hq : own b = .none
    · exact hq
    · have := ho b hq; omega
  · show Blk w3 (g + 2) _ [.slice (some ⟨g, 0, none⟩) st.length st.length, _, _, _, _, _, _]
    rw [hl]; exact b3
  · show Blk w3 g _ (st.flatMap u8s)
    rw [← hC]; exact (b1.but k12 (fun h => h)).but k23 (fun h => h)
  · have k01 : Grow w w1 := by rw [hw1]; exact (But.refl _ w).alloc _
    exact (k01.trans k12).trans k23
set_option maxRecDepth 100000 in
set_option maxHeartbeats 1000000 in
theorem new_any (w : World) (n : Nat) (h1 : 1 ≤ n) (h2 : n ≤ 65536) :
    Calls Try.prog 25 #[.int .i64 (n : Int)] w fun e w' => ∃ gd own, e = .returned (.tuple #[.pointer (some ⟨gd, 0, none⟩), .int .i64 0]) ∧ DvN w w' own gd (Dev.fresh n) := by
  have HMK := Hid.mk' (make_conts w n h2)
  obtain ⟨st, hst⟩ : ∃ st, st = List.replicate n z256 := ⟨_, rfl⟩
  rw [← hst] at HMK
  obtain ⟨C, hC⟩ : ∃ C, C = st.flatMap u8s := ⟨_, rfl⟩
  rw [← hC] at HMK
  obtain ⟨g, hg⟩ : ∃ g, g = w.heap.size := ⟨_, rfl⟩
  have HBD := Hid.mk' (built_dev ⟨g, 0, none⟩ n n (g + 1))
  have hl : st.length = n := by rw [hst, List.length_replicate]
  have hwf : ∀ c ∈ st, wf256 c := fun c hc => by rw [hst] at hc; rw [(List.mem_replicate.1 hc).2]; exact z256_wf
  have HFIN := Hid.mk' (fun (w1 w2 w3 : World) a b c => DvN.fresh (w := w) (w1 := w1) (w2 := w2) (w3 := w3) hl h1 h2 hwf hC hg a b c)
  have HSZ : Hid ((w.alloc (.cells C.toArray 81)).heap.size = g + 1) := by show _ = _; simp [hg]
  have HGE := Hid.mk' hg
  have hi1 : ¬ ((n : Int) < 1) := by omega
  have hi2 : ¬ (65536 < (n : Int)) := by omega
  rw [← hg] at HMK
  have HMM := Hid.mk' (mk_map (w.alloc (.cells C.toArray 81)))
  rw [HSZ.out] at HMM
  have HST := Hid.mk' hst
  clear hC h1 h2 hg hl hwf hst
  go_enter Try.func25, Try.ntmps25
  go_upto_region 3 with fail
  go_wp2_with (first
    | (refine wpList_run rfl (exec_make rfl rfl rfl HMK.out) ?_)
    | (refine wpList_run rfl (exec_makeMap rfl HMM.out) ?_)
    | (refine wpList_build_run rfl _ [_, _, _] rfl _ rfl _ (HBD.out _) ?_)
    | fail)
  obtain ⟨own, hd⟩ := HFIN.out _ _ _ rfl rfl rfl
  refine bodyPost_ret (results_tmp2 rfl _ _ _) rfl ⟨g + 2, ?_, own, ?_⟩
  · have := HGE.out
    subst this
    rfl
  · unfold Dev.fresh; rw [← HST.out]; exact hd
end Go.Proofs.Ytfgcbcopgikodaa
/- slices.Sort of ints, off the library's shelf. -/
namespace Go.Proofs.Ytfgcbcopgikodaa
open Go.RowKit

def renS : Shelf.Ren := ⟨fun x => if x = 5 then 58 else if x = 8 then 60 else if x = 7 then 59 else if x = 19 then 70 else if x = 20 then 71 else if x = 10 then 61 else if x = 11 then 62 else if x = 12 then 63 else if x = 13 then 64 else if x = 14 then 65 else if x = 15 then 66 else if x = 16 then 67 else if x = 17 then 68 else if x = 18 then 69 else if x = 30 then 72 else if x = 31 then 73 else if x = 32 then 74 else if x = 33 then 75 else if x = 34 then 76 else if x = 35 then 77 else if x = 40 then 78 else x, fun x => if x = 23 then 33 else if x = 25 then 3 else if x = 3 then 3 else if x = 32 then 94 else if x = 22 then 33 else if x = 0 then 0 else if x = 44 then 105 else if x = 46 then 107 else if x = 4 then 4 else if x = 36 then 97 else if x = 35 then 96 else if x = 41 then 102 else if x = 5 then 5 else if x = 9 then 9 else if x = 53 then 108 else if x = 57 then 112 else if x = 63 then 114 else if x = 64 then 70 else x, fun x => x⟩
theorem laysS : SlLaysM.n5 Try.prog renS where
  mixed := by kernel_rfl
  f5 := ⟨ "slices.Sort[[]int,int]", by decide, by kernel_rfl⟩
  f7 := ⟨ "slices.pdqsortOrdered[int]", by decide, by kernel_rfl⟩
  f8 := by kernel_rfl
  f10 := ⟨ "slices.insertionSortOrdered[int]", by decide, by kernel_rfl⟩
  f11 := ⟨ "slices.heapSortOrdered[int]", by decide, by kernel_rfl⟩
  f12 := ⟨ "slices.breakPatternsOrdered[int]", by decide, by kernel_rfl⟩
  f13 := ⟨ "slices.choosePivotOrdered[int]", by decide, by kernel_rfl⟩
  f14 := ⟨ "slices.reverseRangeOrdered[int]", by decide, by kernel_rfl⟩
  f15 := ⟨ "slices.partialInsertionSortOrdered[int]", by decide, by kernel_rfl⟩
  f16 := ⟨ "cmp.Less[int]", by decide, by kernel_rfl⟩
  f17 := ⟨ "slices.partitionEqualOrdered[int]", by decide, by kernel_rfl⟩
  f18 := ⟨ "slices.partitionOrdered[int]", by decide, by kernel_rfl⟩
  f19 := by kernel_rfl
  f20 := by kernel_rfl
  f30 := ⟨ "slices.siftDownOrdered[int]", by decide, by kernel_rfl⟩
  f31 := by kernel_rfl
  f32 := by kernel_rfl
  f33 := ⟨ "slices.medianAdjacentOrdered[int]", by decide, by kernel_rfl⟩
  f34 := ⟨ "slices.medianOrdered[int]", by decide, by kernel_rfl⟩
  f35 := ⟨ "cmp.isNaN[int]", by decide, by kernel_rfl⟩
  f40 := ⟨ "slices.order2Ordered[int]", by decide, by kernel_rfl⟩
  t0 := by kernel_rfl
  a0 := fun _ => by kernel_rfl
  z0 := fun _ => by kernel_rfl
  v0 := fun _ => by kernel_rfl
  t3 := by kernel_rfl
  a3 := fun _ => by kernel_rfl
  z3 := fun _ => by kernel_rfl
  v3 := fun _ => by kernel_rfl
  t4 := by kernel_rfl
  a4 := fun _ => by kernel_rfl
  z4 := fun _ => by kernel_rfl
  v4 := fun _ => by kernel_rfl
  t5 := by kernel_rfl
  a5 := fun _ => by kernel_rfl
  z5 := fun _ => by kernel_rfl
  v5 := fun _ => by kernel_rfl
  t9 := by kernel_rfl
  a9 := fun _ => by kernel_rfl
  z9 := fun _ => by kernel_rfl
  v9 := fun _ => by kernel_rfl
  t22 := by kernel_rfl
  a22 := fun _ => by kernel_rfl
  z22 := fun _ => by kernel_rfl
  v22 := fun _ => by kernel_rfl
  t23 := by kernel_rfl
  a23 := fun _ => by kernel_rfl
  z23 := fun _ => by kernel_rfl
  v23 := fun _ => by kernel_rfl
  t25 := by kernel_rfl
  a25 := fun _ => by kernel_rfl
  z25 := fun _ => by kernel_rfl
  v25 := fun _ => by kernel_rfl
  t32 := by kernel_rfl
  a32 := fun _ => by kernel_rfl
  z32 := fun _ => by kernel_rfl
  v32 := fun _ => by kernel_rfl
  t35 := by kernel_rfl
  a35 := fun _ => by kernel_rfl
  z35 := fun _ => by kernel_rfl
  v35 := fun _ => by kernel_rfl
  t36 := by kernel_rfl
  a36 := fun _ => by kernel_rfl
  z36 := fun _ => by kernel_rfl
  v36 := fun _ => by kernel_rfl
  t41 := by kernel_rfl
  a41 := fun _ => by kernel_rfl
  z41 := fun _ => by kernel_rfl
  v41 := fun _ => by kernel_rfl
  t44 := by kernel_rfl
  a44 := fun _ => by kernel_rfl
  z44 := fun _ => by kernel_rfl
  v44 := fun _ => by kernel_rfl
  t46 := by kernel_rfl
  a46 := fun _ => by kernel_rfl
  z46 := fun _ => by kernel_rfl
  v46 := fun _ => by kernel_rfl
  t53 := by kernel_rfl
  a53 := fun _ => by kernel_rfl
  z53 := fun _ => by kernel_rfl
  v53 := fun _ => by kernel_rfl
  t57 := by kernel_rfl
  a57 := fun _ => by kernel_rfl
  z57 := fun _ => by kernel_rfl
  v57 := fun _ => by kernel_rfl
  t63 := by kernel_rfl
  a63 := fun _ => by kernel_rfl
  z63 := fun _ => by kernel_rfl
  v63 := fun _ => by kernel_rfl
  t64 := by kernel_rfl
  a64 := fun _ => by kernel_rfl
  z64 := fun _ => by kernel_rfl
  v64 := fun _ => by kernel_rfl
end Go.Proofs.Ytfgcbcopgikodaa
/- Which writes wait, and how many. -/
namespace Go.Proofs.Ytfgcbcopgikodaa
open Go.RowKit

theorem wpList_some {ops : Array Oper} {rest : List Oper} {o : Oper} {a : Act} {w : World} {Q : Exit → Act → World → Prop} {Φ : Value → World → Prop} (hgd : o.guard = none) (hr : ∃ v w', (execOp a.eval o).run Try.prog w = .ok (.value v) w' ∧ Φ v w') (h : ∀ v w', Φ v w' → wpList Try.prog ops Q rest (a.put o.dst v) w') : wpList Try.prog ops Q (o :: rest) a w := by
  obtain ⟨v, w', h1, h2⟩ := hr
  exact wpList_run hgd h1 (h v w' h2)
def keyN (v : Value) : Nat := match v with | .int _ x => x.toNat | _ => 0
/-- All that wait, by the pairs of the map. -/
def rowsOf (wr : List WrE) (wt : List Nat) (L : List (Value × Value)) : List Nat := L.flatMap fun p => wb wr wt (keyN p.1)
theorem flatMap_eq {α β : Type} {f g : α → List β} {K : List α} (h : ∀ k ∈ K, f k = g k) : K.flatMap f = K.flatMap g := by
  simp only [List.flatMap_def]
  rw [List.map_congr_left h]
theorem cover_perm (f : Nat → Nat) : ∀ (K : List Nat) (wt : List Nat), K.Pairwise (· ≠ ·) → (∀ i ∈ wt, f i ∈ K) → (K.flatMap fun k => wt.filter fun i => f i == k).Perm wt
  | [], wt, _, h => by
    cases wt with
    | nil => exact .nil
    | cons i l => exact absurd (h i List.mem_cons_self) List.not_mem_nil
  | k0 :: K, wt, hp, h => by
    have hp' := List.pairwise_cons.1 hp
    rw [List.flatMap_cons]
    have e : (K.flatMap fun k => wt.filter fun i => f i == k) = (K.flatMap fun k => (wt.filter fun i => !(f i == k0)).filter fun i => f i == k) := by
      refine flatMap_eq (fun k hk => ?_)
      rw [List.filter_filter]
      apply List.filter_congr
      intro i _
      by_cases hi : f i = k
      · have : f i ≠ k0 := fun e => hp'.1 k hk (by rw [← e, hi])
        simp [hi, show ¬ k = k0 by rw [← hi]; exact this]
      · simp [hi]
    rw [e]
    have ih := cover_perm f K (wt.filter fun i => !(f i == k0)) hp'.2 (fun i hi => by
      obtain ⟨h1, h2⟩ := List.mem_filter.1 hi
      rcases List.mem_cons.1 (h i h1) with h3 | h3
      · simp [h3] at h2
      · exact h3)
    exact (ih.append_left _).trans (List.filter_append_perm _ wt)
theorem rows_all {w : World} {own : Owner} {bm : Nat} {wr : List WrE} {wt : List Nat} {M : List (Value × Value)} (hM : Mq Try.prog 3 w bm M) (h2 : ∀ p ∈ M, ∃ b : Nat, p.1 = .int .i64 (b : Int) ∧ b < 65536 ∧ wb wr wt b ≠ [] ∧ RowOf w (Is own (.row b)) 3 1 p.2 (wb wr wt b).length (ints (wb wr wt b))) (h3 : ∀ b : Nat, wb wr wt b ≠ [] → ∃ v, ((.int .i64 (b : Int) : Value), v) ∈ M) : (rowsOf wr wt M).Perm wt := by
  have h := cover_perm (fun i => (wr.getD i d0).1) (M.map fun p => keyN p.1) wt ?_ ?_
  · have e : rowsOf wr wt M = (M.map fun p => keyN p.1).flatMap fun k => wt.filter fun i => (wr.getD i d0).1 == k := by
      unfold rowsOf wb
      rw [List.flatMap_map]
    rw [e]; exact h
  · rw [List.pairwise_map]
    refine hM.apart.imp_of_mem ?_
    intro p q hp hq hne e
    obtain ⟨b, e1, -⟩ := h2 p hp
    obtain ⟨c, e2, -⟩ := h2 q hq
    rw [e1, e2] at e hne
    simp [keyN] at e
    exact hne (by rw [e])
  · intro i hi
    have h4 : wb wr wt (wr.getD i d0).1 ≠ [] := List.ne_nil_of_mem (List.mem_filter.2 ⟨hi, by simp⟩)
    obtain ⟨v, hv⟩ := h3 _ h4
    exact List.mem_map.2 ⟨_, hv, by simp [keyN]⟩
theorem rows_step {wr : List WrE} {wt A : List Nat} {L L' : List (Value × Value)} {p : Value × Value} (h : (A ++ rowsOf wr wt L).Perm wt) (hp : L.Perm (p :: L')) : ((A ++ wb wr wt (keyN p.1)) ++ rowsOf wr wt L').Perm wt := by
  have h1 : (rowsOf wr wt L).Perm (wb wr wt (keyN p.1) ++ rowsOf wr wt L') := by
    have := hp.flatMap_right (fun p => wb wr wt (keyN p.1))
    rw [List.flatMap_cons] at this
    exact this
  rw [List.append_assoc]
  exact (h1.symm.append_left A).trans h
theorem eq_of_perm_le : ∀ {l1 l2 : List Int}, l1.Perm l2 → l1.Pairwise (· ≤ ·) → l2.Pairwise (· ≤ ·) → l1 = l2
  | [], l2, h, _, _ => (List.Perm.nil_eq h)
  | a :: l1, [], h, _, _ => absurd h.length_eq (by simp)
  | a :: l1, b :: l2, h, h1, h2 => by
    have g1 := List.pairwise_cons.1 h1
    have g2 := List.pairwise_cons.1 h2
    have hab : a = b := by
      rcases List.mem_cons.1 (h.mem_iff.1 List.mem_cons_self) with e | e
      · exact e
      · rcases List.mem_cons.1 (h.mem_iff.2 List.mem_cons_self) with e2 | e2
        · exact e2.symm
        · have := g2.1 a e
          have := g1.1 b e2
          omega
    subst hab
    rw [eq_of_perm_le h.cons_inv g1.2 g2.2]
/-- A slice that holds these numbers. -/
def NumS (w : World) (v : Value) (l : List Nat) : Prop := (l = [] ∧ ∃ ao cap, v = .slice ao 0 cap) ∨ (0 < l.length ∧ ∃ g cap, v = .slice (some ⟨g, 0, none⟩) l.length cap ∧ g < w.heap.size ∧ ∀ j u, (ints l)[j]? = some u → w.cell? ⟨g, j, none⟩ = some u)
theorem NumS.grow {w w' : World} {v : Value} {l : List Nat} (h : NumS w v l) (k : Grow w w') : NumS w' v l := by
  rcases h with h | ⟨h0, g, cap, e, hg, hc⟩
  · exact .inl h
  · exact .inr ⟨h0, g, cap, e, Nat.lt_of_lt_of_le hg k.size, fun j u hj => grow_cell k (hc j u hj)⟩
/-- What the library's sort leaves. -/
theorem sort_ints {w : World} {v : Value} {A wt : List Nat} (h : w.ownsRow 0 3 1 v A.length (ints A)) (hp : A.Perm wt) (hs : wt.Pairwise (· < ·)) (hl : A.length ≤ 100000) : Calls Try.prog 58 #[v] w fun e w' => e = .returned (.tuple #[]) ∧ NumS w' v wt ∧ But (fun k => v.ownBlock = some k) w w' := by
  have hrow := h
  obtain ⟨h1, ⟨rfl, h2⟩ | ⟨g, cap, cur, rfl, -, hb, h3, h4, h5, h6⟩⟩ := h
  · have hA : A = [] := List.eq_nil_of_length_eq_zero h2
    subst hA
    have hwt : wt = [] := (List.Perm.nil_eq hp).symm
    subst hwt
    have hc := AnyM.slices_Sort_int_none laysS none 0 w
    change Calls Try.prog 58 _ _ _ at hc
    refine hc.mono ?_
    rintro e w' ⟨rfl, rfl⟩
    exact ⟨rfl, .inl ⟨rfl, none, 0, rfl⟩, But.refl _ _⟩
  · have hlen : A.length = wt.length := hp.length_eq
    by_cases h0 : A.length = 0
    · have hA : A = [] := List.eq_nil_of_length_eq_zero h0
      subst hA
      have hwt : wt = [] := (List.Perm.nil_eq hp).symm
      subst hwt
      have hc := AnyM.slices_Sort_int_none laysS (some ⟨g, 0, none⟩) cap w
      change Calls Try.prog 58 _ _ _ at hc
      refine hc.mono ?_
      rintro e w' ⟨rfl, rfl⟩
      exact ⟨rfl, .inl ⟨rfl, _, _, rfl⟩, But.refl _ _⟩
    · have hgl := lt_of_block hb
      have hH : Sort.Holds (Value.int .i64) w g 0 (A.map fun i : Nat => (i : Int)).toArray := fun j hj => by
        have hj' : j < A.length := by simpa using hj
        refine ⟨?_, ?_⟩
        · rw [Nat.zero_add, hrow.cellAt j (by omega)]
          simp [ints, hj']
        · rw [Nat.zero_add]; exact hrow.frozenAt j
      have hc := AnyM.slices_Sort_int laysS g 0 cap (A.map fun i : Nat => (i : Int)) w hH hgl (by simp; omega)
      change Calls Try.prog 58 _ _ _ at hc
      rw [List.length_map] at hc
      have hms : ((A.map fun i : Nat => (i : Int)).mergeSort fun x y => decide (x ≤ y)) = wt.map fun i : Nat => (i : Int) := by
        refine eq_of_perm_le ((List.mergeSort_perm _ _).trans (hp.map _)) ?_ ?_
        · have := List.pairwise_mergeSort (le := fun x y : Int => decide (x ≤ y)) (fun a b c h1 h2 => by simp at h1 h2 ⊢; omega) (fun a b => by simp; omega) (A.map fun i : Nat => (i : Int))
          exact this.imp (fun h => by simpa using h)
        · rw [List.pairwise_map]
          exact hs.imp (fun h => by omega)
      rw [hms] at hc
      refine hc.mono ?_
      rintro e w' ⟨rfl, n, os, rfl⟩
      refine ⟨rfl, .inr ⟨by omega, g, cap, by rw [hlen], ?_, fun j u hj => ?_⟩, ?_⟩
      · simp [Sort.putRow, Sort.mapBlock, Sort.ahead]; omega
      · have hj' : j < wt.length := by
          have := (List.getElem?_eq_some_iff.1 hj).1
          simpa [ints] using this
        have hH' : Sort.Holds (Value.int .i64) (Sort.ahead w n) g 0 (A.map fun i : Nat => (i : Int)).toArray := hH
        rw [Sort.cell?_grow _ _ _ (by simp [Sort.putRow, Sort.mapBlock, Sort.ahead]; omega)]
        have := Sort.cell?_putRow (Value.int .i64) (Sort.ahead w n) g 0 _ (wt.map fun i : Nat => (i : Int)).toArray hH' (by simp [hlen]) j (by simpa using hj')
        rw [Nat.zero_add] at this
        rw [this, ← hj]
        simp [ints, hj']
      · refine ⟨rfl, rfl, rfl, by simp [Sort.putRow, Sort.mapBlock, Sort.ahead], fun k hk hn => ?_⟩
        rw [Sort.heap_grow_old _ _ (by simpa [Sort.putRow, Sort.mapBlock, Sort.ahead] using hk)]
        have hkg : g ≠ k := fun e => hn (by rw [e]; rfl)
        simp [Sort.putRow, Sort.mapBlock, Sort.ahead, Array.getElem?_modify, hkg]
end Go.Proofs.Ytfgcbcopgikodaa
/- The device's waiting and Waits; how much of a write is spared. -/
namespace Go.Proofs.Ytfgcbcopgikodaa
open Go.RowKit

/-- What waiting tells. -/
structure WaitIs (w : World) (l : List Nat) (e : Ending) (w' : World) : Prop where
  ex : ∃ v, e = .returned v ∧ NumS w' v l ∧ ∀ k, v.ownBlock = some k → w.heap.size ≤ k
  grow : Grow w w'
section
variable {w : World} {own : Owner} {gd : Nat} {s : Dev}
theorem wt_len (h : s.ok) : s.wt.length ≤ s.wr.length := rising_len s.wt 0 _ h.wt (fun i hi => ⟨Nat.zero_le _, h.wl i hi⟩)
set_option maxRecDepth 100000 in
set_option maxHeartbeats 4000000 in
theorem waiting_any (h : Dv w own gd s) (hm : s.wr.length ≤ 100000) :
    Calls Try.prog 48 #[.pointer (some ⟨gd, 0, none⟩)] w (WaitIs w s.wt) := by
  obtain ⟨gs, vw, bm, vi, h⟩ := h
  have c2 : w.cell? ⟨gd, 2, none⟩ = some (.map (some bm)) := h.blk.cell 2
  obtain ⟨M, hM, hM2, hM3⟩ := h.map.ex
  obtain ⟨w2, hrg, hg2, hsz2, hR2⟩ := hM.range Try.underlying76
  obtain ⟨r, hr⟩ : ∃ r, r = w.heap.size := ⟨_, rfl⟩
  rw [← hr] at hrg hR2
  have HRG := Hid.mk' hrg
  have HRW := Hid.mk' hr
  have HALL := Hid.mk' (rows_all hM hM2 hM3)
  have HM2 := Hid.mk' hM2
  have HR2 := Hid.mk' hR2
  have HG2 := Hid.mk' hg2
  have HOK := Hid.mk' h.ok
  have HWL : Hid (s.wt.length ≤ 100000) := Nat.le_trans (wt_len h.ok) hm
  have HBM : Hid (bm < w.heap.size) := hM.lt
  clear h hM hM2 hM3 hrg hg2 hsz2 hR2 hr hm
  go_enter Try.func48, Try.ntmps48
  go_wp2_with (first
    | (refine wpList_run rfl (exec_range rfl rfl HRG.out) ?_)
    | fail)
  clear c2
  refine act_down (fun K hK => ?_)
  go_simp
  refine hK _ ?_
  clear hK K
  go_loopw [3] (fun v3 wr => ∃ (L : List (Value × Value)) (A : List Nat), Rg wr r bm M L ∧ wr.ownsRow 0 3 1 v3 A.length (ints A) ∧ (∀ k, v3.ownBlock = some k → r < k ∧ k < wr.heap.size) ∧ (A ++ rowsOf s.wr s.wt L).Perm s.wt ∧ Grow w wr) (fun _ wr => leftN wr r bm)
  case atStart => exact ⟨M, [], HR2.out, World.ownsRow_nil _ _ _ _, (fun k hk => by cases hk), HALL.out, HG2.out⟩
  case round =>
    clear HR2 HG2 HRG HALL
    rename_i v3
    obtain ⟨L, A, hR, hA, hAk, hP, hG⟩ := hrel
    have HAL : Hid (A.length ≤ 100000) := by
      have := hP.length_eq
      rw [List.length_append] at this
      have := HWL.out
      show A.length ≤ 100000
      omega
    rcases hR.next (P := Try.prog) 0 with ⟨rfl, hnx⟩ | ⟨p, L', w3, hp, hperm, hnx, hb3, hsz3, hR3, hent⟩
    · have HNX := Hid.mk' hnx
      have hP' : A.Perm s.wt := by
        have : rowsOf s.wr s.wt [] = [] := rfl
        rw [this, List.append_nil] at hP; exact hP
      have HSO := Hid.mk' (sort_ints hA hP' HOK.out.wt HAL.out)
      have HAK := Hid.mk' hAk
      have HG := Hid.mk' hG
      clear hnx hR hA hAk hP hG hP'
      go_wp2_with (first
        | (refine wpList_run rfl (exec_next rfl rfl rfl HNX.out) ?_)
        | fail)
      refine Calls.mono HSO.out ?_
      rintro e w4 ⟨rfl, hn, hb⟩
      have HN := Hid.mk' hn
      have HG4 : Hid (Grow w w4) := HG.out.then hb (fun i hi e => absurd (HAK.out i e).1 (by have := HRW.out; omega))
      clear hn hb HSO
      go_wp2
      go_ret
      exact ⟨⟨_, rfl, HN.out, fun k hk => by have := (HAK.out k hk).1; have := HRW.out; omega⟩, HG4.out⟩
    · have HNX := Hid.mk' hnx
      have HENT := Hid.mk' hent
      obtain ⟨pk, pv⟩ := p
      obtain ⟨b, e1, hb65, hwb, hrow⟩ := HM2.out _ hp
      simp only at e1 hrow
      subst e1
      have hstep := rows_step hP hperm
      have hkb : keyN (.int .i64 (b : Int)) = b := by simp [keyN]
      rw [hkb] at hstep
      have hG3 : Grow w w3 := hG.then hb3 (fun i hi e => absurd e (by have := HRW.out; omega))
      have hrow3 := hrow.but hG3 (fun _ _ h => h) (fun _ h => h)
      obtain ⟨ap, cp, rfl, hsh⟩ := hrow3.shape
      obtain ⟨gp, rfl, hgp, hgpl, hcp⟩ := hsh (List.length_pos_iff.2 hwb)
      have HA3 := Hid.mk' (ownsRow_but hA hb3 (fun j hj e => by have := (hAk j hj).1; omega))
      have HAK := Hid.mk' hAk
      have HR3 := Hid.mk' hR3
      have HG3 := Hid.mk' hG3
      have HST := Hid.mk' hstep
      have HSZ := Hid.mk' hsz3
      have HCP : Hid (∀ j u, (ints (wb s.wr s.wt b))[j]? = some u → w3.cell? ((⟨gp, 0, none⟩ : Addr).add j) = some u) := fun j u hj => by
        rw [addr_add, Nat.zero_add]; exact hcp j u hj
      have HLF : Hid (leftN wr r bm = L'.length + 1) := by
        show _ = _
        rw [hR.left, hperm.length_eq, List.length_cons]
      obtain ⟨m, hme⟩ : ∃ m, m = (wb s.wr s.wt b).length := ⟨_, rfl⟩
      have HME := Hid.mk' hme
      have HMB : Hid (A.length + m ≤ 100000) := by
        show _ ≤ _
        have h1 := hstep.length_eq
        rw [List.length_append, List.length_append] at h1
        have := HWL.out
        omega
      rw [← hme] at HENT HNX
      clear hnx hent hR hA hAk hP hG hp hperm hb3 hsz3 hR3 hrow hrow3 hsh hgp hgpl hcp hwb hstep hkb hG3 hb65 hme
      obtain ⟨al, hal⟩ : ∃ al, al = A.length := ⟨_, rfl⟩
      have HALE := Hid.mk' hal
      rw [← hal] at HA3 HMB
      clear hal
      go_wp2_with (first
        | (refine wpList_run rfl (exec_next rfl rfl rfl HNX.out) ?_)
        | (refine wpList_run rfl (exec_entry rfl rfl HENT.out) ?_)
        | (refine wpList_some rfl (exec_append Try.underlying33 infI rfl (by decide) rfl rfl HA3.out rfl (by rw [ints_len, HME.out, Nat.mul_one]) HCP.out (ints_one _) (by have := HMB.out; omega) (by decide)) ?_; intro v4 w4 hap)
        | fail)
      refine ⟨⟨L', A ++ wb s.wr s.wt b, ?_, ?_, ?_, HST.out, ?_⟩, ?_⟩
      · exact HR3.out.but hap.but (fun e => by have := (HAK.out r e).1; omega) (fun e => by have := (HAK.out bm e).1; have := HBM.out; have := HRW.out; omega)
      · have := hap.own
        rw [HALE.out, HME.out] at this
        rw [List.length_append, show ints (A ++ wb s.wr s.wt b) = ints A ++ ints (wb s.wr s.wt b) by simp [ints]]
        exact this
      · intro k hk
        refine ⟨?_, hap.lt k hk⟩
        rcases hap.at' with e | e
        · rw [e] at hk; exact (HAK.out k hk).1
        · rw [e] at hk
          cases hk
          have := HR3.out.lt
          omega
      · exact HG3.out.then hap.but (fun i hi e => absurd (HAK.out i e).1 (by have := HRW.out; omega))
      · have h1 := (HR3.out.but hap.but (fun e => by have := (HAK.out r e).1; omega) (fun e => by have := (HAK.out bm e).1; have := HBM.out; have := HRW.out; omega)).left
        rw [h1, HLF.out]; omega
set_option maxRecDepth 100000 in
set_option maxHeartbeats 4000000 in
theorem waits_any (h : Dv w own gd s) (hm : s.wr.length ≤ 100000) :
    Calls Try.prog 22 #[.pointer (some ⟨gd, 0, none⟩)] w fun e w' => e = .returned (.int .i64 (s.wt.length : Int)) ∧ Grow w w' := by
  obtain ⟨gs, vw, bm, vi, h⟩ := h
  have c2 : w.cell? ⟨gd, 2, none⟩ = some (.map (some bm)) := h.blk.cell 2
  obtain ⟨M, hM, hM2, hM3⟩ := h.map.ex
  obtain ⟨w2, hrg, hg2, hsz2, hR2⟩ := hM.range Try.underlying76
  obtain ⟨r, hr⟩ : ∃ r, r = w.heap.size := ⟨_, rfl⟩
  rw [← hr] at hrg hR2
  have HRG := Hid.mk' hrg
  have HRW := Hid.mk' hr
  have HALL := Hid.mk' (rows_all hM hM2 hM3)
  have HM2 := Hid.mk' hM2
  have HR2 := Hid.mk' hR2
  have HG2 := Hid.mk' hg2
  have HWL : Hid (s.wt.length ≤ 100000) := Nat.le_trans (wt_len h.ok) hm
  clear h hM hM2 hM3 hrg hg2 hsz2 hR2 hr hm
  go_enter Try.func22, Try.ntmps22
  go_wp2_with (first
    | (refine wpList_run rfl (exec_range rfl rfl HRG.out) ?_)
    | fail)
  clear c2
  refine act_down (fun K hK => ?_)
  go_simp
  refine hK _ ?_
  clear hK K
  go_loopw [3] (fun v3 wr => ∃ (L : List (Value × Value)) (A : List Nat), Rg wr r bm M L ∧ v3 = .int .i64 (A.length : Int) ∧ (A ++ rowsOf s.wr s.wt L).Perm s.wt ∧ Grow w wr) (fun _ wr => leftN wr r bm)
  case atStart => exact ⟨M, [], HR2.out, rfl, HALL.out, HG2.out⟩
  case round =>
    clear HR2 HG2 HRG HALL
    obtain ⟨L, A, hR, rfl, hP, hG⟩ := hrel
    obtain ⟨al, hal⟩ : ∃ al, al = A.length := ⟨_, rfl⟩
    have HALE := Hid.mk' hal
    rw [← hal]
    clear hal
    rcases hR.next (P := Try.prog) 0 with ⟨rfl, hnx⟩ | ⟨p, L', w3, hp, hperm, hnx, hb3, hsz3, hR3, hent⟩
    · have HNX := Hid.mk' hnx
      have HP : Hid (A.length = s.wt.length) := by
        have : rowsOf s.wr s.wt [] = [] := rfl
        rw [this, List.append_nil] at hP
        exact hP.length_eq
      have HG := Hid.mk' hG
      clear hnx hR hP hG
      go_wp2_with (first
        | (refine wpList_run rfl (exec_next rfl rfl rfl HNX.out) ?_)
        | fail)
      go_ret
      exact ⟨by rw [← HP.out, ← HALE.out]; rfl, HG.out⟩
    · have HNX := Hid.mk' hnx
      have HENT := Hid.mk' hent
      obtain ⟨pk, pv⟩ := p
      obtain ⟨b, e1, hb65, hwb, hrow⟩ := HM2.out _ hp
      simp only at e1 hrow
      subst e1
      have hstep := rows_step hP hperm
      have hkb : keyN (.int .i64 (b : Int)) = b := by simp [keyN]
      rw [hkb] at hstep
      obtain ⟨ap, cp, rfl, -⟩ := hrow.shape
      have HR3 := Hid.mk' hR3
      have HG3 : Hid (Grow w w3) := hG.then hb3 (fun i hi e => absurd e (by have := HRW.out; omega))
      have HST := Hid.mk' hstep
      have HLF : Hid (leftN wr r bm = L'.length + 1) := by
        show _ = _
        rw [hR.left, hperm.length_eq, List.length_cons]
      obtain ⟨m, hme⟩ : ∃ m, m = (wb s.wr s.wt b).length := ⟨_, rfl⟩
      have HME := Hid.mk' hme
      have hmb : (al : Int) + (m : Int) ≤ 100000 := by
        have h1 := hstep.length_eq
        rw [List.length_append, List.length_append] at h1
        have := HWL.out
        have := HALE.out
        omega
      rw [← hme] at HENT HNX
      clear hnx hent hR hP hG hp hperm hb3 hsz3 hR3 hrow hwb hstep hkb hb65 hme
      go_wp2_with (first
        | (refine wpList_run rfl (exec_next rfl rfl rfl HNX.out) ?_)
        | (refine wpList_run rfl (exec_entry rfl rfl HENT.out) ?_)
        | fail)
      refine ⟨⟨L', A ++ wb s.wr s.wt b, HR3.out, ?_, HST.out, HG3.out⟩, ?_⟩
      · rw [List.length_append, ← HALE.out, ← HME.out]
        go_num
      · rw [HR3.out.left, HLF.out]; omega
end
end Go.Proofs.Ytfgcbcopgikodaa
/- On: the power comes back. -/
namespace Go.Proofs.Ytfgcbcopgikodaa
open Go.RowKit

/-- A slice that holds these numbers (whoever's it is). -/
def IntS (w : World) (v : Value) (fs : List Int) : Prop := (∀ x ∈ fs, -9223372036854775808 ≤ x ∧ x ≤ 9223372036854775807) ∧ fs.length ≤ 140737488355328 ∧ ((fs = [] ∧ ∃ ao cap, v = .slice ao 0 cap) ∨ (0 < fs.length ∧ ∃ b off cap, v = .slice (some ⟨b, off, none⟩) fs.length cap ∧ b < w.heap.size ∧ ∀ i, i < fs.length → w.cell? ⟨b, off + i, none⟩ = some (.int .i64 (fs.getD i 0))))
/-- Its memory lies in F. -/
def IntF (w : World) (F : Nat → Prop) (v : Value) (fs : List Int) : Prop := IntS w v fs ∧ (0 < fs.length → ∀ j, v.ownBlock = some j → F j)
theorem IntF.but {F R : Nat → Prop} {w w' : World} {v : Value} {fs : List Int} (h : IntF w F v fs) (k : But R w w') (hr : ∀ j, F j → ¬ R j) : IntF w' F v fs := by
  obtain ⟨⟨h1, h2, h3 | ⟨h0, b, off, cap, e, hb, hc⟩⟩, hf⟩ := h
  · exact ⟨⟨h1, h2, .inl h3⟩, hf⟩
  · refine ⟨⟨h1, h2, .inr ⟨h0, b, off, cap, e, Nat.lt_of_lt_of_le hb k.size, fun i hi => ?_⟩⟩, hf⟩
    exact (World.cell?_of_block (k.block b hb (hr b (hf h0 b (by rw [e]; rfl))))).trans (hc i hi)
/-- How many bytes of the i-th write that waited are stored. -/
def spare (fs : List Int) (i : Nat) : Nat := if fs.length = 0 then 0 else ((fs.getD (i % fs.length) 0) % 257).toNat
theorem spare_le (fs : List Int) (i : Nat) : spare fs i ≤ 256 := by
  unfold spare
  split
  · omega
  · have h1 := Int.emod_nonneg (fs.getD (i % fs.length) 0) (b := 257) (by decide)
    have h2 := Int.emod_lt_of_pos (fs.getD (i % fs.length) 0) (b := 257) (by decide)
    omega
theorem spared_any {w : World} {v : Value} {fs : List Int} (h : IntS w v fs) (i : Nat) :
    Calls Try.prog 49 #[v, .int .i64 (i : Int)] w fun e w' => e = .returned (.int .i64 (spare fs i : Int)) ∧ w' = w := by
  obtain ⟨h1, h2, ⟨rfl, ao, cap, rfl⟩ | ⟨h0, b, off, cap, rfl, hb, hc⟩⟩ := h
  · have : spare [] i = 0 := rfl
    rw [this]
    go_enter Try.func49, Try.ntmps49
    go_wp2
    go_ret
    exact ⟨rfl, rfl⟩
  · obtain ⟨q, hq⟩ : ∃ q, q = i % fs.length := ⟨_, rfl⟩
    have hql : q < fs.length := by rw [hq]; exact Nat.mod_lt _ h0
    have cq := hc q hql
    obtain ⟨x, hx⟩ : ∃ x, x = fs.getD q 0 := ⟨_, rfl⟩
    rw [← hx] at cq
    have hxr : -9223372036854775808 ≤ x ∧ x ≤ 9223372036854775807 := by
      rw [hx]; exact h1 _ (by rw [List.getD_eq_getElem?_getD, List.getElem?_eq_getElem hql]; exact List.getElem_mem hql)
    have hsp : spare fs i = (x % 257).toNat := by
      unfold spare
      rw [if_neg (by omega), ← hq, ← hx]
    have hmod : Int.tmod (i : Int) (fs.length : Int) = (q : Int) := by
      rw [hq]; exact (Int.ofNat_tmod i fs.length).symm
    have HSP := Hid.mk' hsp
    have hqi : (q : Int) < (fs.length : Int) := by omega
    have hne : ((fs.length : Int) == 0) = false := by
      have : ¬ ((fs.length : Int) = 0) := by omega
      simpa using this
    have hw1 : IntKind.i64.wrap (q : Int) = (q : Int) := wrap64 _ (by omega) (by omega)
    obtain ⟨y, hy⟩ : ∃ y, y = Int.tmod x 257 := ⟨_, rfl⟩
    have ht1 : y < 257 := by rw [hy]; exact Int.tmod_lt_of_pos x (by omega)
    have ht2 : -(257 : Int) < y := by
      have := Int.lt_tmod_of_pos x (b := (257 : Int)) (by omega)
      rw [hy]; omega
    have hem : x % 257 = if y < 0 then y + 257 else y := by
      have h5 := Int.emod_nonneg x (b := 257) (by decide)
      have h6 := Int.emod_lt_of_pos x (b := 257) (by decide)
      have h7 := Int.emod_add_mul_ediv x 257
      have h8 := Int.tmod_add_mul_tdiv x 257
      split <;> omega
    have HEM := Hid.mk' hem
    have hy' : Int.tmod x 257 = y := hy.symm
    have hw2 : IntKind.i64.wrap y = y := wrap64 _ (by omega) (by omega)
    generalize fs.length = n at *
    clear hc hq hx hsp hem hy h1 h2 hb
    by_cases hneg : y < 0
    · have hw3 : IntKind.i64.wrap (y + 257) = y + 257 := wrap64 _ (by omega) (by omega)
      go_enter Try.func49, Try.ntmps49
      go_wp2
      go_ret
      refine ⟨?_, rfl⟩
      rw [HSP.out, HEM.out, if_pos hneg, Int.toNat_of_nonneg (by omega)]
      rfl
    · have hneg' : 0 ≤ y := by omega
      go_enter Try.func49, Try.ntmps49
      go_wp2
      go_ret
      refine ⟨?_, rfl⟩
      rw [HSP.out, HEM.out, if_neg (Int.not_lt.2 hneg'), Int.toNat_of_nonneg hneg']
      rfl
/-- A block of which the first k bytes are laid. -/
def layTo (xs old : List Nat) (k : Nat) : List Nat := xs.take k ++ old.drop k
theorem layTo_wf {xs old : List Nat} {k : Nat} (h1 : wf256 xs) (h2 : wf256 old) (hk : k ≤ 256) : wf256 (layTo xs old k) := by
  refine ⟨?_, fun z hz => ?_⟩
  · unfold layTo
    rw [List.length_append, List.length_take, List.length_drop, h1.1, h2.1]; omega
  · rcases List.mem_append.1 hz with hz | hz
    · exact h1.2 z (List.mem_of_mem_take hz)
    · exact h2.2 z (List.mem_of_mem_drop hz)
/-- What is stored behind the first j of the writes that waited. -/
def tear (s : Dev) (fs : List Int) : Nat → List (List Nat)
  | 0 => s.st
  | j + 1 => (tear s fs j).set (s.wr.getD (s.wt.getD j 0) d0).1 (layTo (s.wr.getD (s.wt.getD j 0) d0).2 ((tear s fs j).getD (s.wr.getD (s.wt.getD j 0) d0).1 []) (spare fs j))
def Dev.on (s : Dev) (fs : List Int) : Dev := { s with st := tear s fs s.wt.length, wt := [], arm := 0, up := true }
theorem tear_len (s : Dev) (fs : List Int) : ∀ j, (tear s fs j).length = s.st.length
  | 0 => rfl
  | j + 1 => by unfold tear; rw [List.length_set]; exact tear_len s fs j
theorem tear_wf {s : Dev} (h : s.ok) (fs : List Int) : ∀ j, j ≤ s.wt.length → ∀ c ∈ tear s fs j, wf256 c
  | 0, _, c, hc => h.st c hc
  | j + 1, hj, c, hc => by
    unfold tear at hc
    have hj' : j < s.wt.length := by omega
    have hm : s.wt.getD j 0 ∈ s.wt := by rw [List.getD_eq_getElem?_getD, List.getElem?_eq_getElem hj']; exact List.getElem_mem hj'
    have hw := h.wl _ hm
    have he := h.wr (s.wr.getD (s.wt.getD j 0) d0) (by rw [List.getD_eq_getElem?_getD, List.getElem?_eq_getElem hw]; exact List.getElem_mem hw)
    rcases List.mem_or_eq_of_mem_set hc with hc | hc
    · exact tear_wf h fs j (by omega) c hc
    · rw [hc]
      refine layTo_wf he.2 (tear_wf h fs j (by omega) _ ?_) (spare_le _ _)
      have hb : (s.wr.getD (s.wt.getD j 0) d0).1 < (tear s fs j).length := by rw [tear_len]; exact he.1
      rw [List.getD_eq_getElem?_getD, List.getElem?_eq_getElem hb]; exact List.getElem_mem hb
theorem exec_copy {w w' : World} {o : Oper} {ρ : Operand → Value} {x y : Operand} {u v r : Value} (ho : o.op = .call { callee := .builtin .copy, args := #[x, y], argTypes := #[32, 32] }) (hx : ρ x = u) (hy : ρ y = v) (h : (Builtin.copy_ #[32, 32] o.type #[u, v]).run Try.prog w = .ok r w') : (execOp ρ o).run Try.prog w = .ok (.value r) w' := by
  unfold execOp
  simp only [ho, resolve, invoke, builtin, Sem.run_bind, Sem.run_pure, Result.andThen_ok, List.map_toArray, List.map_cons, List.map_nil, hx, hy, h]
section
variable {w : World} {own : Owner} {gd : Nat} {s : Dev}
theorem on_up (h : Dv w own gd s) (hu : s.up = true) (v : Value) :
    Calls Try.prog 15 #[.pointer (some ⟨gd, 0, none⟩), v] w fun e w' => e = .returned (.tuple #[]) ∧ w' = w := by
  obtain ⟨gs, vw, bm, vi, h⟩ := h
  have c6 : w.cell? ⟨gd, 6, none⟩ = some (.bool s.up) := h.blk.cell 6
  rw [hu] at c6
  clear h hu
  go_enter Try.func15, Try.ntmps15
  go_wp2
  exact bodyPost_ret (results_none rfl _ _ _) rfl ⟨rfl, rfl⟩
set_option maxRecDepth 100000 in
set_option maxHeartbeats 4000000 in
theorem on_any {v : Value} {fs : List Int} (h : Dv w own gd s) (hu : s.up = false) (hf : IntF w (Is own .none) v fs) (hm : s.wr.length ≤ 100000) :
    Calls Try.prog 15 #[.pointer (some ⟨gd, 0, none⟩), v] w fun e w' => e = .returned (.tuple #[]) ∧ DvTo w own gd (s.on fs) w' := by
  obtain ⟨gs, vw, bm, vi, h⟩ := h
  have hb := h.blk
  have f5 : w.frozen? ⟨gd, 5, none⟩ = false := hb.free 5
  have f6 : w.frozen? ⟨gd, 6, none⟩ = false := hb.free 6
  have c5 : w.cell? ⟨gd, 5, none⟩ = some (.int .i64 (s.arm : Int)) := hb.cell 5
  have c6 : w.cell? ⟨gd, 6, none⟩ = some (.bool s.up) := hb.cell 6
  rw [hu] at c6
  obtain ⟨w1, hw1⟩ : ∃ w1, w1 = (w.setCell ⟨gd, 6, none⟩ (.bool true)).setCell ⟨gd, 5, none⟩ (.int .i64 0) := ⟨_, rfl⟩
  have hb1 : But (· = gd) w w1 := by rw [hw1]; exact (But.set1 _ _ _ _).trans (But.set1 _ _ _ _)
  have d1 : DvM w1 own gd { s with arm := 0, up := true } gs vw bm vi := by
    refine h.scal hb1 ?_
    rw [hw1]; exact (hb.set 6 (.bool true)).set 5 (.int .i64 0)
  have HWA := Hid.mk' (waiting_any ⟨gs, vw, bm, vi, d1⟩ hm)
  have HD1 := Hid.mk' d1
  have HB1 : Hid (But (fun b => own b ≠ .none) w w1) := hb1.mono (fun b _ e => by rw [e, h.tag]; decide)
  have HF1 : Hid (IntF w1 (Is own .none) v fs) := hf.but hb1 (fun j hj e => by have hj : own j = .none := hj; rw [e, h.tag] at hj; cases hj)
  have HW1 := Hid.mk' hw1
  have HOK := Hid.mk' h.ok
  have HTOP : Hid (Top w1 own) := d1.top
  have HTG : Hid (own gd = .dev ∧ own gs = .sto ∧ own bm = .map) := ⟨h.tag, h.stt, h.mat⟩
  have HWL : Hid (s.wt.length ≤ 100000) := Nat.le_trans (wt_len h.ok) hm
  obtain ⟨ws, hws⟩ : ∃ l, l = s.wt := ⟨_, rfl⟩
  have HWS := Hid.mk' hws
  clear h hb hu hf hm hw1 hb1 d1 hws
  go_enter Try.func15, Try.ntmps15
  go_wp2_with fail
  rw [← HW1.out]
  refine Calls.mono HWA.out ?_
  rintro e w2 ⟨⟨vn, rfl, hnum, hnew⟩, hg2⟩
  have HNUM : Hid (NumS w2 vn ws) := by rw [HWS.out]; exact hnum
  have HN2 : Hid (∀ k, w1.heap.size ≤ k → own k = .none) := HTOP.out
  obtain ⟨an, cn, rfl⟩ : ∃ an cn, vn = .slice an ws.length cn := by
    rcases HNUM.out with ⟨e1, ao, cap, e2⟩ | ⟨-, g, cap, e2, -⟩
    · exact ⟨ao, cap, by rw [e2, e1]; rfl⟩
    · exact ⟨_, _, e2⟩
  have HD2 := Hid.mk' (HD1.out.but hg2 (fun _ _ h => h))
  have HF2 := Hid.mk' (HF1.out.but hg2 (fun _ _ h => h))
  have HB2 : Hid (But (fun b => own b ≠ .none) w w2) := HB1.out.trans (hg2.mono (fun _ _ h => h.elim))
  have HNO : Hid (∀ k, (.slice an ws.length cn : Value).ownBlock = some k → own k = .none) := fun k hk => HN2.out k (hnew k hk)
  have HLL : Hid (ws.length = s.wt.length) := by rw [HWS.out]; rfl
  obtain ⟨l, hl⟩ : ∃ l, l = ws.length := ⟨_, rfl⟩
  have HL := Hid.mk' hl
  rw [← hl] at HNO HNUM ⊢
  have hlb : l ≤ 100000 := by have := HLL.out; have := HWL.out; omega
  clear hnum hnew hg2 HD1 HF1 HB1 HWA HN2 hl HTOP HW1 c5 c6 f5 f6
  go_wp2
  go_loopw [24] (fun iv wr => ∃ j : Nat, j ≤ l ∧ iv = .int .i64 j ∧ DvM wr own gd { s with arm := 0, up := true, st := tear s fs j } gs vw bm vi ∧ NumS wr (.slice an l cn) ws ∧ IntF wr (Is own .none) v fs ∧ But (fun b => own b ≠ .none) w wr) (fun iv _ => l - (intOf iv).toNat)
  case atStart => exact ⟨0, Nat.zero_le _, rfl, HD2.out, HNUM.out, HF2.out, HB2.out⟩
  case round =>
    clear HD2 HNUM HF2 HB2
    obtain ⟨j, hj, rfl, hD, hN, hF, hB⟩ := hrel
    have HD := Hid.mk' hD
    have HN := Hid.mk' hN
    have HF := Hid.mk' hF
    have HB := Hid.mk' hB
    by_cases hlt : j < l
    · have hlti : (j : Int) < (l : Int) := by omega
      rcases hN with ⟨e1, -⟩ | ⟨h0, gn, capn, e1, hgn, hcn⟩
      · exact absurd HL.out (by rw [e1]; simp; omega)
      simp only [Value.slice.injEq] at e1
      obtain ⟨rfl, -, rfl⟩ := e1
      obtain ⟨i, hi⟩ : ∃ i, i = ws.getD j 0 := ⟨_, rfl⟩
      have hjw : j < ws.length := by rw [← HL.out]; exact hlt
      have him : i ∈ s.wt := by rw [hi, HWS.out, List.getD_eq_getElem?_getD, List.getElem?_eq_getElem (by rw [← HWS.out]; exact hjw)]; exact List.getElem_mem _
      have cj : wr.cell? ⟨gn, j, none⟩ = some (.int .i64 (i : Int)) := hcn j _ (by
        rw [hi]; simp [ints, List.getD, hjw])
      have hil := HOK.out.wl i him
      obtain ⟨gw, cw, rfl, hgw, hcw⟩ := hD.wrote hil
      obtain ⟨e, he⟩ : ∃ e, e = s.wr.getD i d0 := ⟨_, rfl⟩
      have hwf := HOK.out.wr e (by rw [he, List.getD_eq_getElem?_getD, List.getElem?_eq_getElem hil]; exact List.getElem_mem hil)
      have hcw : ∀ c u, (wcell e)[c]? = some u → wr.cell? ⟨gw, i * 257 + c, none⟩ = some u := by rw [he]; exact hcw
      obtain ⟨b, xs⟩ := e
      have hbn : b < s.st.length := hwf.1
      have HXW : Hid (wf256 xs) := hwf.2
      have cb : wr.cell? ⟨gw, i * 257, none⟩ = some (.int .i64 (b : Int)) := hcw 0 _ rfl
      have HCX : Hid (∀ c, c < 256 → wr.cell? ⟨gw, i * 257 + 1 + c, none⟩ = some (.int .u8 (xs.getD c 0 : Nat))) := fun c hc => by
        rw [Nat.add_assoc, Nat.add_comm 1 c]
        refine hcw (c + 1) _ ?_
        unfold wcell
        rw [List.getElem?_cons_succ]
        exact u8s_get xs c (by rw [HXW.out.1]; exact hc)
      obtain ⟨T, hT⟩ : ∃ T, T = tear s fs j := ⟨_, rfl⟩
      have HTL : Hid (T.length = s.st.length) := by rw [hT]; exact tear_len s fs j
      have HTW : Hid (∀ c ∈ T, wf256 c) := by rw [hT]; exact tear_wf HOK.out fs j (by rw [← HLL.out, ← HL.out]; omega)
      obtain ⟨k, hk⟩ : ∃ k, k = spare fs j := ⟨_, rfl⟩
      have hk256 : (k : Int) ≤ 256 := by have := spare_le fs j; omega
      have HSPC : Hid (∀ w', But (· = gs) wr w' → Calls Try.prog 49 #[v, .int .i64 (j : Int)] w' fun e w'' => e = .returned (.int .i64 (k : Int)) ∧ Grow w' w'') := fun w' hw => by
        rw [hk]
        refine (spared_any (HF.out.but hw (fun c hc e => by have hc : own c = .none := hc; rw [e, HTG.out.2.1] at hc; cases hc)).1 j).mono ?_
        rintro e w'' ⟨rfl, rfl⟩
        exact ⟨rfl, But.refl _ _⟩
      have HNX : Hid (tear s fs (j + 1) = T.set b (layTo xs (T.getD b []) k)) := by
        show tear s fs (j + 1) = _
        unfold tear
        rw [← HWS.out, ← hi, ← he, ← hT, ← hk]
      rw [← hT] at HD
      obtain ⟨n, hn⟩ : ∃ n, n = s.st.length := ⟨_, rfl⟩
      have hbi : (b : Int) < (n : Int) := by omega
      have HN0 : Hid (T.length = n) := HTL.out.trans hn.symm
      have HBT : Hid (b < T.length) := by show _ < _; rw [HTL.out]; exact hbn
      obtain ⟨m, hm⟩ : ∃ m, m = s.wr.length := ⟨_, rfl⟩
      have hii : (i : Int) < (m : Int) := by omega
      have c1 : wr.cell? ⟨gd, 1, none⟩ = some (.slice (some ⟨gw, 0, none⟩) m cw) := by rw [hm]; exact HD.out.blk.cell 1
      have HCB := Hid.mk' cb
      have HGW : Hid (gw < wr.heap.size ∧ ¬ gw = gs) := ⟨HD.out.top.lt (by rw [hgw]; decide), fun e => by rw [e, HTG.out.2.1] at hgw; cases hgw⟩
      have HSB : Hid (∀ w', But (· = gs) wr w' → w'.cell? ⟨gd, 0, none⟩ = some (.slice (some ⟨gs, 0, none⟩) n n)) := fun w' hw => by
        have := (HD.out.blk.but hw (fun e => by have := HTG.out.1; rw [e, HTG.out.2.1] at this; cases this)).cell 0
        rw [← HN0.out]; exact this
      have HGN : Hid (own gn = .none) := HNO.out gn rfl
      have HK := Hid.mk' (show k ≤ 256 by omega)
      clear hD hF hB hcn hgn hjw him hil hgw hcw hwf hbn hT hk hn hm hi he h0 cb
      go_upto_region 6 with fail
      clear c1 cj
      refine region_chain [([0, 1, 2, 3, 4, 5, 6, 7, 8, 9, 10, 11, 12, 13, 14, 15, 16], 17)] [] (But (· = gs) wr) (Grow wr) (by kernel_rfl) (by kernel_rfl) (fun _ _ h k => h.trans k) (fun _ h => h.mono (fun _ _ h => h.elim)) ((But.refl _ wr).drew) ?_
      intro ι hne X hX
      have c0 : ∀ x, (X x).cell? ⟨gd, 0, none⟩ = some (.slice (some ⟨gs, 0, none⟩) n n) := fun x => HSB.out _ (hX x)
      have c7 : ∀ x, (X x).cell? ⟨gw, i * 257, none⟩ = some (.int .i64 (b : Int)) := fun x => (World.cell?_of_block ((hX x).block gw HGW.out.1 HGW.out.2)).trans HCB.out
      iterate 15 (refine still_step rfl (fun K hK => ?_); go_simp; refine hK _ ?_; clear hK K)
      refine still_call rfl (.int .i64 (k : Int)) 49 #[v, .int .i64 (j : Int)] rfl (fun x => by kernel_rfl) (fun x => HSPC.out _ (hX x)) ?_
      intro K hK; go_simp; refine hK _ ?_; clear hK K
      iterate 1 (refine still_step rfl (fun K hK => ?_); go_simp; refine hK _ ?_; clear hK K)
      refine still_nil ?_
      clear c0 c7 hX hne
      refine turn_run rfl rfl (fun _ w' => ∃ w5, But (· = gs) wr w5 ∧ Blk w5 gs 81 ((T.set b (layTo xs (T.getD b []) k)).flatMap u8s) ∧ Grow w5 w') (fun _ => But (· = gs) wr) (fun _ w4 w5 ⟨w6, h1, h2, h3⟩ k => ⟨w6, h1, h2, h3.trans k⟩) (fun _ _ ⟨w6, h1, h2, h3⟩ => h1.trans (h3.mono (fun _ _ h => h.elim))) (.inr (fun _ _ h => h)) ?_ ?_
      · intro w4 h4
        have hb0 : Blk w4 gs 81 (T.flatMap u8s) := HD.out.sto.but h4 (fun h => h)
        rw [flat_cut HBT.out] at hb0
        obtain ⟨C, hC⟩ : ∃ C, C = T.getD b [] := ⟨_, rfl⟩
        have hCw : wf256 C := by rw [hC]; exact HTW.out _ (by rw [List.getD_eq_getElem?_getD, List.getElem?_eq_getElem HBT.out]; exact List.getElem_mem HBT.out)
        have hk2 := HK.out
        rw [← hC] at hb0 ⊢
        have hsplit : (T.take b).flatMap u8s ++ u8s C ++ (T.drop (b + 1)).flatMap u8s = (T.take b).flatMap u8s ++ (u8s C).take k ++ ((u8s C).drop k ++ (T.drop (b + 1)).flatMap u8s) := by
          conv => lhs; rw [← List.take_append_drop k (u8s C)]
          simp only [List.append_assoc]
        rw [hsplit] at hb0
        have hyl : (xs.take k).length = k := by rw [List.length_take, HXW.out.1]; omega
        have hcp := run_copy_blk (off := b * 256) (dLen := 256) (dCap := 256) (sCap := 256) (b := gw) (so := i * 257 + 1) (n := k) (ys := xs.take k) 3 hb0 (flat_pre HTW.out (Nat.le_of_lt HBT.out)) (by rw [List.length_take, u8s_len, hCw.1]; omega) (by rw [hyl]; simp [Nat.min_eq_left hk2]) (fun c hc => by
          rw [hyl] at hc
          have := grow_cell h4 (HCX.out c (by omega))
          rw [this]
          simp [List.getD, hc])
        rw [hyl] at hcp
        refine ⟨_, _, .inl (exec_copy rfl rfl rfl hcp), _, (But.setRow (R := (· = gs)) (h4.mono (fun _ _ h => h.elim)) (fun _ => rfl) _), ?_, But.refl _ _⟩
        rw [flat_set HBT.out]
        have hfin : (T.take b).flatMap u8s ++ u8s (layTo xs C k) ++ (T.drop (b + 1)).flatMap u8s = (T.take b).flatMap u8s ++ u8s ((xs.take k).take k) ++ ((u8s C).drop k ++ (T.drop (b + 1)).flatMap u8s) := by
          unfold layTo u8s
          rw [List.take_take, Nat.min_self, List.map_append, List.map_drop]
          simp only [List.append_assoc]
        rw [hfin]
        exact hb0.row _
      · rintro v5 - Y hY
        go_simp
        refine hY _ ?_
        clear hY Y
        intro ι hne X hX
        refine still_nil ?_
        clear hX hne
        rintro w6 ⟨w5, h1, h2, h3⟩
        have hlw : ∀ c ∈ T.set b (layTo xs (T.getD b []) k), wf256 c := fun c hc => by
          rcases List.mem_or_eq_of_mem_set hc with hc | hc
          · exact HTW.out c hc
          · rw [hc]
            exact layTo_wf HXW.out (HTW.out _ (by rw [List.getD_eq_getElem?_getD, List.getElem?_eq_getElem HBT.out]; exact List.getElem_mem HBT.out)) HK.out
        have HD6 := Hid.mk' ((HD.out.store h1 h2 (by rw [List.length_set]) hlw).but h3 (fun _ _ h => h))
        rw [← HNX.out] at HD6
        have hngs : ∀ c, own c = .none → ¬ c = gs := fun c hc e => by rw [e, HTG.out.2.1] at hc; cases hc
        have HN6 : Hid (NumS w6 (.slice (some ⟨gn, 0, none⟩) l cn) ws) := by
          rcases HN.out with e9 | ⟨q0, q1, q2, q3, q4, q5⟩
          · exact .inl e9
          · refine .inr ⟨q0, q1, q2, q3, ?_, fun c u hc => ?_⟩
            · exact Nat.lt_of_lt_of_le q4 (Nat.le_trans h1.size h3.size)
            · have e5 : q1 = gn := by simp only [Value.slice.injEq, Option.some.injEq, Addr.mk.injEq, and_true] at q3; exact q3.1.symm
              refine grow_cell h3 ((World.cell?_of_block (h1.block q1 q4 (hngs q1 (by rw [e5]; exact HGN.out)))).trans (q5 c u hc))
        have HF6 := Hid.mk' ((HF.out.but h1 (fun c hc e => hngs c hc e)).but h3 (fun _ _ h => h))
        have HB6 : Hid (But (fun b => own b ≠ .none) w w6) := (HB.out.trans (h1.mono (fun c _ e => by rw [e, HTG.out.2.1]; decide))).trans (h3.mono (fun _ _ h => h.elim))
        clear h1 h2 h3 hlw hngs
        go_wp2
        exact ⟨⟨j + 1, by omega, by go_num, HD6.out, HN6.out, HF6.out, HB6.out⟩, by simp [intOf]; omega⟩
    · have hlti : ¬ ((j : Int) < (l : Int)) := by omega
      have hjl : j = s.wt.length := by rw [← HLL.out, ← HL.out]; omega
      obtain ⟨M', hM', -, -⟩ := hD.map.ex
      obtain ⟨w4, hcl, hM4, hb4, -⟩ := hM'.clear (t := 76) Try.underlying76 0
      have HCL := Hid.mk' hcl
      have HFIN : Hid (DvTo w own gd (s.on fs) w4) := by
        refine ⟨HB.out.trans (hb4.mono (fun b _ e => by rw [e, HTG.out.2.2]; decide)), own, Fresh.refl _ _, gs, vw, bm, vi, ?_⟩
        have h5 := hD.maps (wt' := []) hb4 ⟨[], hM4, fun p hp => absurd hp List.not_mem_nil, fun b hb => absurd rfl hb⟩ .nil (fun i hi => absurd hi List.not_mem_nil)
        rw [hjl] at h5
        exact h5
      have c2 : wr.cell? ⟨gd, 2, none⟩ = some (.map (some bm)) := hD.blk.cell 2
      clear hD hN hF hB hM' hcl hM4 hb4 hjl
      go_wp2_with (first
        | (refine wpList_run rfl (exec_clear rfl rfl HCL.out) ?_)
        | fail)
      go_end0
      exact ⟨rfl, HFIN.out⟩
end
end Go.Proofs.Ytfgcbcopgikodaa
/- The law's full; a chain of writes. -/
namespace Go.Proofs.Ytfgcbcopgikodaa
open Go.RowKit

def fullOf (xs : List Nat) : List Nat := xs.take 256 ++ List.replicate (256 - xs.length) 0
def fullTo (xs : List Nat) (k : Nat) : List Nat := xs.take k ++ List.replicate (256 - k) 0
theorem fullTo_len {xs : List Nat} {k : Nat} (h1 : k ≤ xs.length) (h2 : k ≤ 256) : (fullTo xs k).length = 256 := by
  unfold fullTo; rw [List.length_append, List.length_take, List.length_replicate]; omega
theorem fullOf_wf {xs : List Nat} (h : ∀ z ∈ xs, z < 256) : wf256 (fullOf xs) := by
  refine ⟨?_, fun z hz => ?_⟩
  · unfold fullOf; rw [List.length_append, List.length_take, List.length_replicate]; omega
  · rcases List.mem_append.1 hz with hz | hz
    · exact h z (List.mem_of_mem_take hz)
    · rw [(List.mem_replicate.1 hz).2]; decide
theorem fullTo_next {xs : List Nat} {k : Nat} (h1 : k < xs.length) (h2 : k < 256) : (fullTo xs k).set k (xs.getD k 0) = fullTo xs (k + 1) := by
  unfold fullTo
  rw [List.set_append_right _ _ (by rw [List.length_take]; omega), List.length_take, Nat.min_eq_left (by omega), Nat.sub_self, show 256 - k = (256 - (k + 1)) + 1 by omega, List.replicate_succ, List.set_cons_zero, List.take_succ_eq_append_getElem h1, List.append_assoc]
  simp [List.getD, h1]
theorem fullTo_all {xs : List Nat} {k : Nat} (h : (k = xs.length ∧ k ≤ 256) ∨ (k = 256 ∧ k ≤ xs.length)) : fullTo xs k = fullOf xs := by
  unfold fullTo fullOf
  rcases h with ⟨h1, h2⟩ | ⟨h1, h2⟩
  · rw [List.take_of_length_le (by omega), List.take_of_length_le (by omega), h1]
  · rw [h1, show 256 - 256 = 256 - xs.length by omega]
theorem infB : (Try.prog.info? 5).map (fun i => (i.zero, i.size, i.bytes)) = some (some (.int .u8 0), 1, 1) := by kernel_rfl
theorem made_b (n : Nat) : madeCells (Value.cells (.int .u8 0)) n = (u8s (List.replicate n 0)).toArray := by
  apply Array.ext
  · simp [madeCells, u8s]
  · intro i h1 h2
    simp [madeCells, u8s, Value.cells, Nat.mod_one]
theorem make_b (w : World) (n : Nat) (h : n ≤ 100000) : (Instr.makeSlice 32 (.int .i64 (n : Int)) (.int .i64 (n : Int))).run Try.prog w = .ok (.slice (some ⟨w.heap.size, 0, none⟩) n n) (w.alloc (.cells (u8s (List.replicate n 0)).toArray 5)) := by
  obtain ⟨i, hi, hz, hs, hby⟩ := info_parts infB
  have h1 := run_make (P := Try.prog) w 32 5 i _ Try.underlying32 hi hz .i64 .i64 (n : Int) (n : Int) (by omega) (Int.le_refl _) (by rw [hby]; omega) (by omega)
  have e : (n : Int).toNat * i.size = n := by rw [hs]; omega
  rw [e, made_b] at h1
  exact h1
/-- A row of 256 bytes, new since w. -/
structure FullIs (w : World) (D : List Nat) (e : Ending) (w' : World) : Prop where
  ex : ∃ g, e = .returned (.slice (some ⟨g, 0, none⟩) 256 256) ∧ w.heap.size ≤ g ∧ Ow w' w.heap.size (.slice (some ⟨g, 0, none⟩) 256 256) D
  grow : Grow w w'
set_option maxRecDepth 100000 in
set_option maxHeartbeats 2000000 in
theorem full_any {w : World} {v : Value} {xs : List Nat} (hv : Bs w v xs) :
    Calls Try.prog 26 #[v] w (FullIs w (fullOf xs)) := by
  have HMK := Hid.mk' (make_b w 256 (by omega))
  obtain ⟨Z, hZ⟩ : ∃ Z, Z = List.replicate 256 (0 : Nat) := ⟨_, rfl⟩
  rw [← hZ] at HMK
  obtain ⟨g, hg⟩ : ∃ g, g = w.heap.size := ⟨_, rfl⟩
  obtain ⟨W0, hW0⟩ : ∃ W0, W0 = w.alloc (.cells (u8s Z).toArray 5) := ⟨_, rfl⟩
  have hG0 : Grow w W0 := by rw [hW0]; exact (But.refl _ w).alloc _
  have hZl : Z.length = 256 := by rw [hZ]; exact List.length_replicate
  have hO0 : Ow W0 w.heap.size (.slice (some ⟨g, 0, none⟩) 256 256) (fullTo xs 0) := by
    have hb : Blk W0 g 5 (u8s Z ++ []) := by rw [List.append_nil, hW0]; exact Blk.new hg.symm
    have := Ow.shu (base := w.heap.size) (cap := 256) hb (by omega) (fun z hz => by rw [hZ] at hz; rw [(List.mem_replicate.1 hz).2]; decide) (by omega) (by simp [hZl]) (by omega) (by unfold maxLen; omega)
    rw [hZl] at this
    have e : fullTo xs 0 = Z := by unfold fullTo; rw [hZ]; rfl
    rw [e]; exact this
  rw [← hg, ← hW0] at HMK
  have HO0 := Hid.mk' hO0
  have HG0 := Hid.mk' hG0
  have HGE := Hid.mk' hg
  have HV0 := Hid.mk' (hv.but hG0 (fun _ _ _ h => h))
  have HNB : Hid (0 < xs.length → v.ownBlock ≠ some g) := fun h0 => hv.own h0 (by omega)
  obtain ⟨ao, cap, rfl, -⟩ := hv.gen
  have hxl : xs.length ≤ 281474976710656 := hv.2.1
  obtain ⟨l, hl⟩ : ∃ l, l = xs.length := ⟨_, rfl⟩
  have HL := Hid.mk' hl
  rw [← hl] at HV0 hxl HNB ⊢
  clear hv hG0 hO0 hZl hZ hW0 hg hl
  go_enter Try.func26, Try.ntmps26
  go_wp2_with (first
    | (refine wpList_run rfl (exec_make rfl rfl rfl HMK.out) ?_)
    | fail)
  go_loopw [4] (fun iv wr => ∃ k : Nat, k ≤ l ∧ k ≤ 256 ∧ iv = .int .i64 k ∧ Ow wr w.heap.size (.slice (some ⟨g, 0, none⟩) 256 256) (fullTo xs k) ∧ Bs wr (.slice ao l cap) xs ∧ Grow w wr) (fun iv _ => l - (intOf iv).toNat)
  case atStart => exact ⟨0, Nat.zero_le _, by decide, rfl, HO0.out, HV0.out, HG0.out⟩
  case round =>
    clear HO0 HV0 HG0
    obtain ⟨k, hkl, hk2, rfl, hO, hV, hG⟩ := hrel
    have HO := Hid.mk' hO
    have HV := Hid.mk' hV
    have HG := Hid.mk' hG
    rcases (by omega : (k < l ∧ k < 256) ∨ (¬ k < l) ∨ (k < l ∧ ¬ k < 256)) with ⟨hlt, hk⟩ | hlt | ⟨hlt, hk⟩
    · have hlti : (k : Int) < (l : Int) := by omega
      have hki : (k : Int) < 256 := by omega
      have hkx : k < xs.length := by rw [← HL.out]; exact hlt
      obtain ⟨h1, h2, ⟨rfl, -⟩ | ⟨h0, b, off, cap', e, hcap, hbl, hcell⟩⟩ := hV
      · simp at hkx
      simp only [Value.slice.injEq] at e
      obtain ⟨rfl, -, rfl⟩ := e
      have cb := hcell k hkx
      obtain ⟨z, hz⟩ : ∃ z, z = xs.getD k 0 := ⟨_, rfl⟩
      rw [← hz] at cb
      have HZ256 : Hid (z < 256) := by rw [hz]; exact h1 _ (getD_mem xs k hkx)
      obtain ⟨g', cp, R, e, hge, hb, hR, hc, hm⟩ := hO.opn (by rw [fullTo_len (by omega) hk2]; omega)
      simp only [Value.slice.injEq, Option.some.injEq, Addr.mk.injEq, and_true] at e
      obtain ⟨rfl, -, rfl⟩ := e
      have hLL : (fullTo xs k).length = 256 := fullTo_len (by omega) hk2
      have ck : wr.cell? ⟨g, k, none⟩ = some (.int .u8 ((fullTo xs k).getD k 0 : Nat)) := by
        rw [hb.cell, List.getElem?_append_left (by simp [u8s, hLL]; omega), u8s_get _ k (by omega)]
      have fk : wr.frozen? ⟨g, k, none⟩ = false := hb.free k
      obtain ⟨y, hy⟩ : ∃ y, y = (fullTo xs k).getD k 0 := ⟨_, rfl⟩
      rw [← hy] at ck
      have HNX : Hid ((fullTo xs k).set k z = fullTo xs (k + 1)) := by rw [hz]; exact fullTo_next hkx hk
      have HLL := Hid.mk' hLL
      have HNG : Hid (¬ b = g) := fun e => HNB.out (by omega) (by rw [e]; rfl)
      clear hO hG h1 h2 hcell hbl hz hge hb hR hc hm hLL hy h0 hkx hcap
      go_wp2
      refine ⟨⟨k + 1, by omega, by omega, by go_num, ?_, ?_, ?_⟩, by simp [intOf]; omega⟩
      · rw [← HNX.out]
        exact HO.out.setA HLL.out (by rw [HLL.out]; exact hk) HZ256.out
      · exact HV.out.but (But.set1 _ _ _ _) (fun j hj _ e => by
          have : b = j := by simpa [Value.ownBlock] using hj
          exact HNG.out (by rw [this]; exact e))
      · exact HG.out.then (But.set1 _ _ _ _) (fun i hi e => by have := HGE.out; omega)
    all_goals (
      first
        | (have h1 : ¬ ((k : Int) < (l : Int)) := by omega)
        | (have h1 : (k : Int) < (l : Int) := by omega
           have h2 : ¬ ((k : Int) < 256) := by omega)
      have HFA : Hid (fullTo xs k = fullOf xs) := fullTo_all (by have := HL.out; omega)
      rw [HFA.out] at HO
      clear hO hV hG
      go_wp2
      go_ret
      exact ⟨⟨g, rfl, by have := HGE.out; omega, HO.out⟩, HG.out⟩)
/-- Bytes of a block of its own, as a slice. -/
theorem Blk.bs {w : World} {g n : Nat} {t : TypeId} {D : List Nat} (h : Blk w g t (u8s D)) (hn : D.length = n) (h0 : 0 < n) (hb : ∀ z ∈ D, z < 256) (hl : n ≤ 100000) : Bs w (.slice (some ⟨g, 0, none⟩) n n) D := by
  refine ⟨hb, by omega, .inr ⟨by omega, g, 0, n, by rw [hn], by omega, h.lt, fun i hi => ?_⟩⟩
  rw [Nat.zero_add, h.cell, u8s_get D i hi]
/-- A block written, flushed, and written again. -/
def chain (st : List (List Nat)) (b : Nat) (A B : List Nat) : Dev := (((((Dev.of st).write b A).acc).acc.flushed).write b B).acc
section
variable {st : List (List Nat)} {b : Nat} {A B : List Nat}
theorem chain1_now (hb : b < st.length) : (((Dev.of st).write b A).acc).acc.flushed.st.getD b [] = A := by
  have e : (((Dev.of st).write b A).acc).acc.flushed.st = (List.range st.length).map (((Dev.of st).write b A).acc).acc.now := rfl
  have e2 : (((Dev.of st).write b A).acc).acc.now b = A := by
    unfold Dev.now
    have e3 : wb (((Dev.of st).write b A).acc).acc.wr (((Dev.of st).write b A).acc).acc.wt b = [0] := by
      show ([0] : List Nat).filter (fun i => (([(b, A)] : List WrE).getD i d0).1 == b) = [0]
      simp [List.getD]
    rw [e3]
    rfl
  rw [e]
  simp [List.getD, hb, e2]
theorem chain_on (hb : b < st.length) (fs : List Int) : (({ chain st b A B with arm := 0, up := false } : Dev).on fs).now b = layTo B A (spare fs 0) := by
  obtain ⟨F, hF⟩ : ∃ F, F = (((Dev.of st).write b A).acc).acc.flushed.st := ⟨_, rfl⟩
  have hFl : F.length = st.length := by rw [hF]; show ((List.range st.length).map _).length = _; simp
  have hFb : F.getD b [] = A := by rw [hF]; exact chain1_now hb
  rw [now_none (by rfl)]
  have e : (({ chain st b A B with arm := 0, up := false } : Dev).on fs).st = F.set b (layTo B (F.getD b []) (spare fs 0)) := by rw [hF]; rfl
  have hbF : b < F.length := by rw [hFl]; exact hb
  rw [e, hFb]
  simp [List.getD, hbF]
end
end Go.Proofs.Ytfgcbcopgikodaa
/- The law's awake. -/
namespace Go.Proofs.Ytfgcbcopgikodaa
open Go.RowKit

section
variable {w0 w w1 : World} {own : Owner} {gd : Nat} {s s1 : Dev}
theorem Bs.lt' {w : World} {v : Value} {xs : List Nat} (h : Bs w v xs) (h0 : 0 < xs.length) : ∀ j, v.ownBlock = some j → j < w.heap.size := fun j hj => by
  rcases Nat.lt_or_ge j w.heap.size with e | e
  · exact e
  · exact absurd hj (h.own h0 e)
/-- A call on the device leaves alone what isn't its own. -/
theorem DvN.step (h : DvN w0 w own gd s) (k : DvTo w own gd s1 w1) : ∃ own1, DvN w0 w1 own1 gd s1 ∧ (∀ v xs, Bf w (Is own .none) v xs → Bf w1 (Is own1 .none) v xs) ∧ Fresh w own own1 := by
  obtain ⟨own1, h1, h2⟩ := h.to k
  refine ⟨own1, h1, fun v xs hv => ?_, h2⟩
  have h3 := hv.but k.but (fun j hj e => e hj)
  refine ⟨h3.1, fun h0 j hj => ?_⟩
  have h4 : own j = .none := hv.2 h0 j hj
  by_cases hq : own1 j = own j
  · show own1 j = .none
    rw [hq]; exact h4
  · have := h2 j hq
    have := hv.1.lt' h0 j hj
    omega
theorem DvN.free (h : DvN w0 w own gd s) {v : Value} {xs : List Nat} (ho : Ow w1 w.heap.size v xs) : Bf w1 (Is own .none) v xs := ⟨ho.bs, fun _ j hj => h.dv.top j (ho.ge j hj).1⟩
end
theorem lit_b (w : World) (x : Nat) (hx : x < 256) : Bs (w.alloc (.cells #[.int .u8 (x : Int)] 5)) (.slice (some ⟨w.heap.size, 0, none⟩) 1 1) [x] := by
  have hb : Blk (w.alloc (.cells #[.int .u8 (x : Int)] 5)) w.heap.size 5 (u8s [x]) := Blk.new (L := u8s [x]) rfl
  exact hb.bs rfl (by decide) (fun z hz => by rw [show z = x by simpa using hz]; exact hx) (by decide)
theorem lit_i (w : World) (x : Int) (h1 : -9223372036854775808 ≤ x) (h2 : x ≤ 9223372036854775807) : IntS (w.alloc (.cells #[.int .i64 x] 3)) (.slice (some ⟨w.heap.size, 0, none⟩) 1 1) [x] := by
  have hb : Blk (w.alloc (.cells #[.int .i64 x] 3)) w.heap.size 3 [.int .i64 x] := Blk.new (L := [.int .i64 x]) rfl
  refine ⟨fun y hy => by rw [show y = x by simpa using hy]; exact ⟨h1, h2⟩, by simp, .inr ⟨by simp, w.heap.size, 0, 1, rfl, by simp, fun i hi => ?_⟩⟩
  obtain rfl : i = 0 := by simpa using hi
  rw [hb.cell]; rfl
set_option maxRecDepth 100000 in
set_option maxHeartbeats 4000000 in
theorem awake_any (w : World) : Calls Try.prog 8 #[] w fun e w' => e = .returned (.bool true) ∧ Grow w w' := by
  have HNW := Hid.mk' (new_any w 4 (by decide) (by decide))
  unfold Dev.fresh at HNW
  obtain ⟨st, hst⟩ : ∃ st, st = List.replicate 4 z256 := ⟨_, rfl⟩
  rw [← hst] at HNW
  have HSL : Hid (st.length = 4) := by show _ = _; rw [hst]; rfl
  obtain ⟨A, hA⟩ : ∃ A, A = fullOf [1] := ⟨_, rfl⟩
  obtain ⟨B, hB⟩ : ∃ B, B = fullOf [2] := ⟨_, rfl⟩
  have HAW : Hid (wf256 A) := by rw [hA]; exact fullOf_wf (by decide)
  have HBW : Hid (wf256 B) := by rw [hB]; exact fullOf_wf (by decide)
  have HAE := Hid.mk' hA
  have HBE := Hid.mk' hB
  clear hst hA hB
  go_enter Try.func8, Try.ntmps8
  go_wp2_with fail
  refine Calls.mono HNW.out ?_
  rintro e w1 ⟨gd, own, rfl, hd1⟩
  have HD1 := Hid.mk' hd1
  have HFA := Hid.mk' (full_any (lit_b w1 1 (by decide)))
  rw [← HAE.out] at HFA
  clear hd1 HNW
  go_wp2_with (first
    | (refine wpList_run rfl (exec_row1 Try.underlying32 infB (by decide) (by decide) rfl rfl rfl) ?_)
    | fail)
  refine Calls.mono HFA.out ?_
  rintro e w2 ⟨⟨ga, rfl, hga, hoa⟩, hg2⟩
  have hg12 : Grow w1 w2 := ((But.refl _ w1).alloc _).trans hg2
  have HD2 := Hid.mk' (HD1.out.then hg12)
  have HA2 : Hid (Bf w2 (Is own .none) (.slice (some ⟨ga, 0, none⟩) 256 256) A) := HD1.out.free (hoa.mono (by simp))
  have HFB := Hid.mk' (full_any (lit_b w2 2 (by decide)))
  rw [← HBE.out] at HFB
  clear hga hoa hg2 hg12 HFA HD1
  go_wp2_with (first
    | (refine wpList_run rfl (exec_row1 Try.underlying32 infB (by decide) (by decide) rfl rfl rfl) ?_)
    | fail)
  refine Calls.mono HFB.out ?_
  rintro e w3 ⟨⟨gb, rfl, hgb, hob⟩, hg3⟩
  have hg23 : Grow w2 w3 := ((But.refl _ w2).alloc _).trans hg3
  have HD3 := Hid.mk' (HD2.out.then hg23)
  have HB3 : Hid (Bf w3 (Is own .none) (.slice (some ⟨gb, 0, none⟩) 256 256) B) := HD2.out.free (hob.mono (by simp))
  have HA3 := Hid.mk' (HA2.out.but hg23 (fun _ _ h => h))
  have HW1 := Hid.mk' (write_any HD3.out.dv (by rfl) (b := 3) (by show 3 < st.length; rw [HSL.out]; decide) HA3.out HAW.out.1 (by show 0 < 100000; decide) (by show 0 < _; decide) (by show 0 ≤ _; decide))
  rw [if_neg (show ¬ (Dev.of st).arm = 1 by show ¬ (0 = 1); decide)] at HW1
  clear hgb hob hg3 hg23 HFB HD2 HA2
  go_wp2_with fail
  refine Calls.mono HW1.out ?_
  rintro e w4 ⟨rfl, h4⟩
  obtain ⟨own4, hd4, hk4, -⟩ := HD3.out.step h4
  have HD4 := Hid.mk' hd4
  have HA4 := Hid.mk' (hk4 _ _ HA3.out)
  have HB4 := Hid.mk' (hk4 _ _ HB3.out)
  have HFL := Hid.mk' (flush_any hd4.dv (by rfl) (by show 1 < _; decide) (by show 0 ≤ _; decide) (by show ¬ (0 = 1); decide))
  clear h4 hd4 hk4 HW1 HD3 HA3 HB3
  go_wp2_with fail
  refine Calls.mono HFL.out ?_
  rintro e w5 ⟨rfl, h5⟩
  obtain ⟨own5, hd5, hk5, -⟩ := HD4.out.step h5
  have HD5 := Hid.mk' hd5
  have HA5 := Hid.mk' (hk5 _ _ HA4.out)
  have HB5 := Hid.mk' (hk5 _ _ HB4.out)
  have HLN : Hid ((((Dev.of st).write 3 A).acc).acc.flushed.st.length = 4) := by
    show ((List.range st.length).map _).length = 4
    rw [List.length_map, List.length_range, HSL.out]
  have HW2 := Hid.mk' (write_any hd5.dv (by rfl) (b := 3) (by rw [HLN.out]; decide) HB5.out HBW.out.1 (by show 1 < 100000; decide) (by show 2 < _; decide) (by show 0 ≤ _; decide))
  rw [if_neg (show ¬ ((((Dev.of st).write 3 A).acc).acc.flushed).arm = 1 by show ¬ (0 = 1); decide)] at HW2
  clear h5 hd5 hk5 HFL HD4 HA4 HB4
  go_wp2_with fail
  refine Calls.mono HW2.out ?_
  rintro e w6 ⟨rfl, h6⟩
  obtain ⟨own6, hd6, hk6, -⟩ := HD5.out.step h6
  have HD6 : Hid (DvN w w6 own6 gd (chain st 3 A B)) := hd6
  have HA6 := Hid.mk' (hk6 _ _ HA5.out)
  have HCR := Hid.mk' (crash_any HD6.out.dv)
  clear h6 hd6 hk6 HW2 HD5 HA5 HB5
  go_wp2_with fail
  refine Calls.mono HCR.out ?_
  rintro e w7 ⟨rfl, h7⟩
  obtain ⟨own7, hd7, hk7, -⟩ := HD6.out.step h7
  have HA7 := Hid.mk' (hk7 _ _ HA6.out)
  have hg8 : Grow w7 (w7.alloc (.cells #[.int .i64 0] 3)) := (But.refl _ w7).alloc _
  have HD8 := Hid.mk' (hd7.then hg8)
  have HA8 := Hid.mk' (HA7.out.but hg8 (fun _ _ h => h))
  have HON := Hid.mk' (on_any HD8.out.dv (by rfl) (v := .slice (some ⟨w7.heap.size, 0, none⟩) 1 1) (fs := [0]) ⟨lit_i w7 0 (by decide) (by decide), fun _ j hj => hd7.dv.top j (by cases hj; exact Nat.le_refl _)⟩ (by show 2 ≤ 100000; decide))
  clear h7 hd7 hk7 hg8 HCR HD6 HA6 HA7
  go_wp2_with (first
    | (refine wpList_run rfl (exec_row1 Try.underlying33 infI (by decide) (by decide) rfl rfl rfl) ?_)
    | fail)
  refine Calls.mono HON.out ?_
  rintro e w9 ⟨rfl, h9⟩
  obtain ⟨own9, hd9, hk9, -⟩ := HD8.out.step h9
  have HD9 := Hid.mk' hd9
  have HA9 := Hid.mk' (hk9 _ _ HA8.out)
  have HNOW : Hid ((({ chain st 3 A B with arm := 0, up := false } : Dev).on [0]).now 3 = A) := by
    show _ = _
    rw [chain_on (by rw [HSL.out]; decide)]
    show ([] : List Nat) ++ A.drop 0 = A
    simp
  have HRD := Hid.mk' (read_any hd9.dv (by rfl) (b := 3) (by
    show 3 < (tear _ _ _).length
    rw [tear_len]
    show 3 < ((List.range st.length).map _).length
    rw [List.length_map, List.length_range, HSL.out]; decide))
  rw [HNOW.out] at HRD
  clear h9 hd9 hk9 HON HD8 HA8
  go_wp2_with fail
  refine Calls.mono HRD.out ?_
  rintro e wA ⟨gc, rfl, hgc, hbc, hgA⟩
  have HDA := Hid.mk' (HD9.out.then hgA)
  have HSA := Hid.mk' (same_any (hbc.bs HAW.out.1 (by decide) HAW.out.2 (by decide)) (HA9.out.but hgA (fun _ _ h => h)).1)
  rw [decide_eq_true rfl] at HSA
  clear hgc hbc hgA HRD HD9 HA9
  go_wp2_with fail
  refine Calls.mono HSA.out ?_
  rintro e wB ⟨rfl, d, rfl⟩
  have HDB := Hid.mk' (HDA.out.then ((But.refl _ wA).drewN (n := d)))
  have HCO := Hid.mk' (count_any HDB.out.dv)
  rw [show (({ chain st 3 A B with arm := 0, up := false } : Dev).on [0]).cnt = 3 by rfl] at HCO
  clear HSA HDA
  go_wp2_with fail
  refine Calls.mono HCO.out ?_
  rintro e wC ⟨rfl, rfl⟩
  go_wp2
  go_ret
  exact ⟨rfl, HDB.out.grow⟩
end Go.Proofs.Ytfgcbcopgikodaa
/- lay, Poke, Copy: what the adversary does to one block. -/
namespace Go.Proofs.Ytfgcbcopgikodaa
open Go.RowKit

/-- A block is stored so, and no write of it waits. -/
def Dev.laid (s : Dev) (b : Nat) (D : List Nat) : Dev := { s with st := s.st.set b D, wt := s.wt.filter fun i => !((s.wr.getD i d0).1 == b) }
theorem wb_laid {wr : List WrE} {wt : List Nat} {b c : Nat} : wb wr (wt.filter fun i => !((wr.getD i d0).1 == b)) c = if c = b then [] else wb wr wt c := by
  unfold wb
  rw [List.filter_filter]
  by_cases h : c = b
  · rw [if_pos h, List.filter_eq_nil_iff]
    intro i _
    subst h
    simp
  · rw [if_neg h]
    apply List.filter_congr
    intro i _
    generalize (wr.getD i d0).1 = q
    by_cases hi : q = c
    · subst hi
      simp [h]
    · simp [hi]
theorem exec_load_box {w : World} {o : Oper} {ρ : Operand → Value} {g : Nat} {D : List Nat} {x : Operand} (hb : Blk w g 81 (u8s D)) (hD : D.length = 256) (ho : o.op = .load 81 x) (hx : ρ x = .pointer (some ⟨g, 0, none⟩)) : (execOp ρ o).run Try.prog w = .ok (.value (.agg (u8s D).toArray)) w :=
  run_load_arr Try.underlying81 i256 hb.cells0 hD ho hx
set_option maxRecDepth 100000 in
set_option maxHeartbeats 4000000 in
theorem lay_any {w : World} {own : Owner} {gd : Nat} {s : Dev} (h : Dv w own gd s) {b : Nat} (hb : b < s.st.length) {D : List Nat} (hD : wf256 D) :
    Calls Try.prog 56 #[.pointer (some ⟨gd, 0, none⟩), .int .i64 (b : Int), .agg (u8s D).toArray] w fun e w' => e = .returned (.tuple #[]) ∧ DvTo w own gd (s.laid b D) w' := by
  obtain ⟨gs, vw, bm, vi, h⟩ := h
  obtain ⟨N, hN⟩ : ∃ N, N = (u8s D).toArray := ⟨_, rfl⟩
  rw [← hN]
  obtain ⟨g5, hg5⟩ : ∃ g, g = w.heap.size := ⟨_, rfl⟩
  obtain ⟨W0, hW0⟩ : ∃ W0, W0 = w.alloc (.cells N 81) := ⟨_, rfl⟩
  have hG0 : Grow w W0 := by rw [hW0]; exact (But.refl _ w).alloc _
  have HB5 : Hid (Blk W0 g5 81 (u8s D)) := by show Blk _ _ _ _; rw [hW0, hN]; exact Blk.new hg5.symm
  have HD0 := Hid.mk' (h.but hG0 (fun _ _ h => h))
  have HG0 := Hid.mk' hG0
  have HW0 := Hid.mk' hW0
  have HGE := Hid.mk' hg5
  have HNE := Hid.mk' hN
  have HDL : Hid (D.length = 256) := hD.1
  have HDW := Hid.mk' hD
  have HB := Hid.mk' hb
  have HOK := Hid.mk' h.ok
  have HTG : Hid (own gd = .dev ∧ own gs = .sto ∧ own bm = .map) := ⟨h.tag, h.stt, h.mat⟩
  have HB65 : Hid (b < 65536) := by have := h.ok.nb; show b < _; omega
  obtain ⟨n, hn⟩ : ∃ n, n = s.st.length := ⟨_, rfl⟩
  have HN0 := Hid.mk' hn
  have hbi : (b : Int) < (n : Int) := by omega
  clear h hN hG0 hW0 hg5 hD hb hn
  go_enter Try.func56, Try.ntmps56
  go_upto_region 1 with fail
  rw [← HW0.out, ← HGE.out]
  refine region_chain [([0, 1, 2, 3, 4, 5, 6], 7)] [] (Grow W0) (Grow W0) (by kernel_rfl) (by kernel_rfl) (fun _ _ h k => h.trans k) (fun _ h => h) ((But.refl _ W0).drew) ?_
  intro ι hne X hX
  have c0 : ∀ x, (X x).cell? ⟨gd, 0, none⟩ = some (.slice (some ⟨gs, 0, none⟩) n n) := fun x => by rw [HN0.out]; exact (HD0.out.blk.but (hX x) (fun h => h)).cell 0
  iterate 5 (refine still_step rfl (fun K hK => ?_); go_simp; refine hK _ ?_; clear hK K)
  refine still_val rfl (.agg N) rfl (fun x => by rw [HNE.out]; exact exec_load_box (HB5.out.but (hX x) (fun h => h)) HDL.out rfl rfl) ?_
  intro K hK; go_simp; refine hK _ ?_; clear hK K
  iterate 1 (refine still_step rfl (fun K hK => ?_); go_simp; refine hK _ ?_; clear hK K)
  refine still_nil ?_
  clear c0 hX hne
  refine turn_run rfl rfl (fun _ w' => ∃ w5, But (· = gs) W0 w5 ∧ Blk w5 gs 81 ((s.st.set b D).flatMap u8s) ∧ Grow w5 w') (fun _ _ => True) (fun _ w4 w5 ⟨w6, h1, h2, h3⟩ k => ⟨w6, h1, h2, h3.trans k⟩) (fun _ _ _ => trivial) (.inl (by kernel_rfl)) ?_ ?_
  · intro w4 h4
    have hb0 := HD0.out.sto.but h4 (fun h => h)
    rw [flat_cut HB.out] at hb0
    have hold : (u8s (s.st.getD b [])).length = (u8s D).length := by
      rw [u8s_len, u8s_len, HDL.out]
      exact (HOK.out.st _ (by rw [List.getD_eq_getElem?_getD, List.getElem?_eq_getElem HB.out]; exact List.getElem_mem HB.out)).1
    refine turn_cells (cs := u8s D) rfl rfl (by show Value.agg N = _; rw [HNE.out]) (by rw [i256, u8s_len, HDL.out]) (u8s_one _) hb0 (flat_pre HOK.out.st (Nat.le_of_lt HB.out)) hold ?_
    intro w5 hb5 hbut5
    refine ⟨w5, (h4.mono (fun _ _ h => h.elim)).trans hbut5, ?_, But.refl _ _⟩
    rw [flat_set HB.out]; exact hb5
  rintro v5 - Y hY
  go_simp
  refine hY _ ?_
  clear hY Y
  intro ι hne X hX
  refine still_nil ?_
  clear hX hne
  rintro w6 ⟨w5, h1, h2, h3⟩
  have hwf : ∀ c ∈ s.st.set b D, wf256 c := fun c hc => by
    rcases List.mem_or_eq_of_mem_set hc with hc | hc
    · exact HOK.out.st c hc
    · rw [hc]; exact HDW.out
  have hd6 := (HD0.out.store h1 h2 (by rw [List.length_set]) hwf).but h3 (fun _ _ h => h)
  have HB6 : Hid (But (fun b => own b ≠ .none) w w6) := ((HG0.out.mono (fun _ _ h => h.elim)).trans (h1.mono (fun c _ e => by rw [e, HTG.out.2.1]; decide))).trans (h3.mono (fun _ _ h => h.elim))
  obtain ⟨M, hM, hM2, hM3⟩ := hd6.map.ex
  obtain ⟨w7, M', hdel, hM7, hb7, hsz7, hmem⟩ := hM.del (t := 76) (et := 33) keyI Try.underlying76 (keyOfI b HB65.out) 0
  have HDEL := Hid.mk' hdel
  have HFIN : Hid (DvTo w own gd (s.laid b D) w7) := by
    refine ⟨HB6.out.trans (hb7.mono (fun c _ e => by rw [e, HTG.out.2.2]; decide)), own, Fresh.refl _ _, gs, vw, bm, vi, ?_⟩
    refine hd6.maps (wt' := s.wt.filter fun i => !((s.wr.getD i d0).1 == b)) hb7 ⟨M', hM7, fun p hp => ?_, fun c hc => ?_⟩ (HOK.out.wt.filter _) (fun i hi => HOK.out.wl i (List.mem_filter.1 hi).1)
    · obtain ⟨hp1, hp2⟩ := (hmem p.1 p.2).1 hp
      obtain ⟨c, e1, e2, e3, e4⟩ := hM2 p hp1
      have hcb : ¬ c = b := fun e => hp2 (by rw [e1, e])
      have hwl : wb s.wr (s.wt.filter fun i => !((s.wr.getD i d0).1 == b)) c = wb s.wr s.wt c := by rw [wb_laid, if_neg hcb]
      refine ⟨c, e1, e2, ?_, ?_⟩
      · show wb s.wr _ c ≠ []
        rw [hwl]; exact e3
      · show RowOf w7 _ _ 1 p.2 (wb s.wr _ c).length (ints (wb s.wr _ c))
        rw [hwl]
        exact e4.but hb7 (fun j hj e => by have hj : own j = .row c := hj; rw [e, HTG.out.2.2] at hj; cases hj) (fun _ h => h)
    · have hc : wb s.wr (s.wt.filter fun i => !((s.wr.getD i d0).1 == b)) c ≠ [] := hc
      rw [wb_laid] at hc
      by_cases hcb : c = b
      · rw [if_pos hcb] at hc; exact absurd rfl hc
      · rw [if_neg hcb] at hc
        obtain ⟨u, hu⟩ := hM3 c hc
        refine ⟨u, (hmem _ _).2 ⟨hu, fun e => hcb ?_⟩⟩
        simp only [Value.int.injEq, true_and] at e
        omega
  have c2 : w6.cell? ⟨gd, 2, none⟩ = some (.map (some bm)) := hd6.blk.cell 2
  clear h1 h2 h3 hwf hd6 hM hM2 hM3 hdel hM7 hb7 hsz7 hmem
  go_wp2_with (first
    | (refine wpList_run rfl (exec_delete rfl rfl rfl HDEL.out) ?_)
    | fail)
  go_end0
  exact ⟨rfl, HFIN.out⟩
section
variable {w : World} {own : Owner} {gd : Nat} {s : Dev}
theorem dcopy_arg (h : Dv w own gd s) (x y : Int) (hx : ¬ ((0 ≤ x ∧ x < (s.st.length : Int)) ∧ (0 ≤ y ∧ y < (s.st.length : Int)))) :
    Calls Try.prog 41 #[.pointer (some ⟨gd, 0, none⟩), .int .i64 x, .int .i64 y] w fun e w' => e = .returned (.int .i64 1) ∧ w' = w := by
  have HHX := Hid.mk' (has_any h x)
  have HHY := Hid.mk' (has_any h y)
  clear h
  by_cases h1 : 0 ≤ x ∧ x < (s.st.length : Int)
  · rw [decide_eq_true h1] at HHX
    rw [decide_eq_false (fun h2 => hx ⟨h1, h2⟩)] at HHY
    clear h1 hx
    go_enter Try.func41, Try.ntmps41
    go_wp2_with fail
    refine Calls.mono HHX.out ?_
    rintro e w ⟨rfl, rfl⟩
    go_wp2_with fail
    refine Calls.mono HHY.out ?_
    rintro e w ⟨rfl, rfl⟩
    go_wp2
    go_ret
    exact ⟨rfl, rfl⟩
  · rw [decide_eq_false h1] at HHX
    clear h1 hx HHY
    go_enter Try.func41, Try.ntmps41
    go_wp2_with fail
    refine Calls.mono HHX.out ?_
    rintro e w ⟨rfl, rfl⟩
    go_wp2
    go_ret
    exact ⟨rfl, rfl⟩
theorem dcopy_any (h : Dv w own gd s) {a b : Nat} (ha : a < s.st.length) (hb : b < s.st.length) :
    Calls Try.prog 41 #[.pointer (some ⟨gd, 0, none⟩), .int .i64 (a : Int), .int .i64 (b : Int)] w fun e w' => e = .returned (.int .i64 0) ∧ DvTo w own gd (s.laid b (s.now a)) w' := by
  have HHX := Hid.mk' (has_any h (a : Int))
  have HHY := Hid.mk' (has_any h (b : Int))
  rw [decide_eq_true (by omega : (0 : Int) ≤ (a : Int) ∧ (a : Int) < (s.st.length : Int))] at HHX
  rw [decide_eq_true (by omega : (0 : Int) ≤ (b : Int) ∧ (b : Int) < (s.st.length : Int))] at HHY
  have HRE := Hid.mk' (reads_any h ha)
  have HLA : Hid (∀ w1, Grow w w1 → Calls Try.prog 56 #[.pointer (some ⟨gd, 0, none⟩), .int .i64 (b : Int), .agg (u8s (s.now a)).toArray] w1 fun e w' => e = .returned (.tuple #[]) ∧ DvTo w own gd (s.laid b (s.now a)) w') := fun w1 hg => by
    refine (lay_any (h.grow hg) hb (h.ok.now ha)).mono ?_
    rintro e w2 ⟨rfl, h2⟩
    exact ⟨rfl, h2.from hg⟩
  obtain ⟨N, hN⟩ : ∃ N, N = (u8s (s.now a)).toArray := ⟨_, rfl⟩
  rw [← hN] at HRE HLA
  clear h ha hb hN
  go_enter Try.func41, Try.ntmps41
  go_wp2_with fail
  refine Calls.mono HHX.out ?_
  rintro e w ⟨rfl, rfl⟩
  go_wp2_with fail
  refine Calls.mono HHY.out ?_
  rintro e w ⟨rfl, rfl⟩
  go_wp2_with fail
  refine Calls.mono HRE.out ?_
  rintro e w1 ⟨rfl, hg1⟩
  have HL1 := Hid.mk' (HLA.out w1 hg1)
  clear hg1 HLA
  go_wp2_with fail
  refine Calls.mono HL1.out ?_
  rintro e w2 ⟨rfl, h2⟩
  have H2 := Hid.mk' h2
  clear h2
  go_wp2
  go_ret
  exact ⟨rfl, H2.out⟩
end
end Go.Proofs.Ytfgcbcopgikodaa
/- Poke. -/
namespace Go.Proofs.Ytfgcbcopgikodaa
open Go.RowKit

/-- The first k bytes turned, from a on. -/
def pokeTo (c : List Nat) (a : Nat) (ys : List Nat) : Nat → List Nat
  | 0 => c
  | k + 1 => (pokeTo c a ys k).set (a + k) ((pokeTo c a ys k).getD (a + k) 0 ^^^ ys.getD k 0)
theorem pokeTo_wf {c : List Nat} (h : wf256 c) {a : Nat} {ys : List Nat} (hy : ∀ z ∈ ys, z < 256) : ∀ k, k ≤ ys.length → a + k ≤ 256 → wf256 (pokeTo c a ys k)
  | 0, _, _ => h
  | k + 1, hk, ha => by
    have ih := pokeTo_wf (a := a) h hy k (by omega) (by omega)
    unfold pokeTo
    refine ⟨by rw [List.length_set]; exact ih.1, fun z hz => ?_⟩
    rcases List.mem_or_eq_of_mem_set hz with hz | hz
    · exact ih.2 z hz
    · rw [hz]
      have h1 : (pokeTo c a ys k).getD (a + k) 0 < 256 := ih.2 _ (getD_mem (pokeTo c a ys k) (a + k) (by rw [ih.1]; omega))
      have h2 : ys.getD k 0 < 256 := hy _ (getD_mem ys k (by omega))
      exact Nat.xor_lt_two_pow (n := 8) h1 h2
section
variable {w : World} {own : Owner} {gd : Nat} {s : Dev} {v : Value} {ys : List Nat}
theorem poke_arg (h : Dv w own gd s) (x y : Int) (hyr : y ≤ 9223372036854775807) (hv : Bs w v ys) (hx : ¬ ((0 ≤ x ∧ x < (s.st.length : Int)) ∧ 0 ≤ y ∧ (ys.length : Int) ≤ 256 - y)) :
    Calls Try.prog 39 #[.pointer (some ⟨gd, 0, none⟩), .int .i64 x, .int .i64 y, v] w fun e w' => e = .returned (.int .i64 1) ∧ w' = w := by
  have HHX := Hid.mk' (has_any h x)
  obtain ⟨ao, cap, rfl, -⟩ := hv.gen
  have hl : ys.length ≤ 281474976710656 := hv.2.1
  clear h hv
  by_cases h1 : 0 ≤ x ∧ x < (s.st.length : Int)
  · rw [decide_eq_true h1] at HHX
    have hx2 : ¬ (0 ≤ y ∧ (ys.length : Int) ≤ 256 - y) := fun h2 => hx ⟨h1, h2⟩
    clear h1 hx
    generalize ys.length = l at *
    by_cases hy : y < 0
    · go_enter Try.func39, Try.ntmps39
      go_wp2_with fail
      refine Calls.mono HHX.out ?_
      rintro e w ⟨rfl, rfl⟩
      go_wp2
      go_ret
      exact ⟨rfl, rfl⟩
    · have hy0 : ¬ (y < 0) := hy
      have hw : IntKind.i64.wrap (256 - y) = 256 - y := wrap64 _ (by omega) (by omega)
      have hgt : 256 - y < (l : Int) := by omega
      clear hx2 hy
      go_enter Try.func39, Try.ntmps39
      go_wp2_with fail
      refine Calls.mono HHX.out ?_
      rintro e w ⟨rfl, rfl⟩
      go_wp2
      go_ret
      exact ⟨rfl, rfl⟩
  · rw [decide_eq_false h1] at HHX
    clear h1 hx
    generalize ys.length = l at *
    go_enter Try.func39, Try.ntmps39
    go_wp2_with fail
    refine Calls.mono HHX.out ?_
    rintro e w ⟨rfl, rfl⟩
    go_wp2
    go_ret
    exact ⟨rfl, rfl⟩
set_option maxRecDepth 100000 in
set_option maxHeartbeats 4000000 in
theorem poke_any (h : Dv w own gd s) {b a : Nat} (hb : b < s.st.length) (hv : Bs w v ys) (ha : a + ys.length ≤ 256) :
    Calls Try.prog 39 #[.pointer (some ⟨gd, 0, none⟩), .int .i64 (b : Int), .int .i64 (a : Int), v] w fun e w' => e = .returned (.int .i64 0) ∧ DvTo w own gd (s.laid b (pokeTo (s.now b) a ys ys.length)) w' := by
  have HHX := Hid.mk' (has_any h (b : Int))
  rw [decide_eq_true (by omega : (0 : Int) ≤ (b : Int) ∧ (b : Int) < (s.st.length : Int))] at HHX
  have HRE := Hid.mk' (reads_any h hb)
  have HWF := Hid.mk' (h.ok.now hb)
  have HPW : Hid (∀ k, k ≤ ys.length → wf256 (pokeTo (s.now b) a ys k)) := fun k hk => pokeTo_wf (h.ok.now hb) hv.1 k hk (by omega)
  have HDV := Hid.mk' h
  have HB := Hid.mk' hb
  obtain ⟨C, hC⟩ : ∃ C, C = s.now b := ⟨_, rfl⟩
  rw [← hC] at HRE HWF HPW ⊢
  have HCL : Hid (C.length = 256) := HWF.out.1
  obtain ⟨Z, hZ⟩ : ∃ Z, Z = u8s z256 := ⟨_, rfl⟩
  have hz := z256v
  rw [← hZ] at hz
  have HZL : Hid (Z.length = 256) := by show _ = _; rw [hZ]; rfl
  have HV := Hid.mk' hv
  obtain ⟨ao, cap, rfl, -⟩ := hv.gen
  obtain ⟨l, hl⟩ : ∃ l, l = ys.length := ⟨_, rfl⟩
  have HL := Hid.mk' hl
  rw [← hl] at HV ha HPW ⊢
  have hw : IntKind.i64.wrap (256 - (a : Int)) = 256 - (a : Int) := wrap64 _ (by omega) (by omega)
  have hgt : ¬ (256 - (a : Int) < (l : Int)) := by omega
  clear h hb hv hC hZ hl
  go_enter Try.func39, Try.ntmps39
  go_wp2_with fail
  refine Calls.mono HHX.out ?_
  rintro e w ⟨rfl, rfl⟩
  go_wp2_with fail
  refine Calls.mono HRE.out ?_
  rintro e w1 ⟨rfl, hg1⟩
  have HG1 := Hid.mk' hg1
  have HBZ : Hid (Blk (w1.alloc (.cells Z.toArray 81)) w1.heap.size 81 Z) := Blk.new rfl
  clear hg1
  go_upto_region 6 with (first
    | (refine wpList_store_u8s i256 rfl _ _ rfl w1.heap.size C HCL.out rfl rfl Z HZL.out HBZ.out ?_; intro w2 hb2 hbut2)
    | fail)
  obtain ⟨g9, hg9⟩ : ∃ g, g = w1.heap.size := ⟨_, rfl⟩
  rw [← hg9] at hb2 hbut2 ⊢
  have hG2 : Grow w w2 := HG1.out.trans (((But.refl _ w1).alloc _).then hbut2 (fun i hi e => by omega))
  have HG2 := Hid.mk' hG2
  have HB2 := Hid.mk' hb2
  have HG9 : Hid (w.heap.size ≤ g9) := by show _ ≤ _; rw [hg9]; exact HG1.out.size
  have HV2 := Hid.mk' (HV.out.but hG2 (fun _ _ _ h => h))
  have HNB : Hid (0 < l → (.slice ao l cap : Value).ownBlock ≠ some g9) := fun h0 => HV.out.own (by rw [← HL.out]; exact h0) HG9.out
  clear hb2 hbut2 hG2 hg9 HBZ HG1
  go_wp2
  go_loopw [34] (fun iv wr => ∃ k : Nat, k ≤ l ∧ iv = .int .i64 k ∧ Blk wr g9 81 (u8s (pokeTo C a ys k)) ∧ Bs wr (.slice ao l cap) ys ∧ Grow w wr) (fun iv _ => l - (intOf iv).toNat)
  case atStart => exact ⟨0, Nat.zero_le _, rfl, HB2.out, HV2.out, HG2.out⟩
  case round =>
    clear HB2 HV2 HG2
    obtain ⟨k, hkl, rfl, hBK, hVK, hGK⟩ := hrel
    have HBK := Hid.mk' hBK
    have HVK := Hid.mk' hVK
    have HGK := Hid.mk' hGK
    by_cases hlt : k < l
    · have hlti : (k : Int) < (l : Int) := by omega
      have hkx : k < ys.length := by rw [← HL.out]; exact hlt
      obtain ⟨h1, h2, ⟨rfl, -⟩ | ⟨h0, bb, off, cap', e, hcap, hbl, hcell⟩⟩ := hVK
      · simp at hkx
      simp only [Value.slice.injEq] at e
      obtain ⟨rfl, -, rfl⟩ := e
      have cy := hcell k hkx
      obtain ⟨y, hy⟩ : ∃ y, y = ys.getD k 0 := ⟨_, rfl⟩
      rw [← hy] at cy
      have hy256 : y < 256 := by rw [hy]; exact h1 _ (getD_mem ys k hkx)
      obtain ⟨x, hx⟩ : ∃ x, x = (pokeTo C a ys k).getD (a + k) 0 := ⟨_, rfl⟩
      have hpw := HPW.out k (by omega)
      have hx256 : x < 256 := by rw [hx]; exact hpw.2 _ (getD_mem _ _ (by rw [hpw.1]; omega))
      have cx : wr.cell? ⟨g9, a + k, none⟩ = some (.int .u8 (x : Int)) := by rw [hBK.cell, u8s_get _ _ (by rw [hpw.1]; omega), hx]
      have fx : wr.frozen? ⟨g9, a + k, none⟩ = false := hBK.free (a + k)
      have hxor : bits .xor .u8 (x : Int) (y : Int) = ((x ^^^ y : Nat) : Int) := u8_xor_nat x y hx256 hy256
      obtain ⟨z, hze⟩ : ∃ z, z = x ^^^ y := ⟨_, rfl⟩
      rw [← hze] at hxor
      have HNX : Hid (pokeTo C a ys (k + 1) = (pokeTo C a ys k).set (a + k) z) := by rw [hze, hx, hy]; rfl
      have hak : IntKind.i64.wrap ((a : Int) + (k : Int)) = ((a + k : Nat) : Int) := by
        rw [show (a : Int) + (k : Int) = ((a + k : Nat) : Int) by omega]; exact wrap64 _ (by omega) (by omega)
      have hak2 : ((a + k : Nat) : Int) < 256 := by omega
      obtain ⟨q, hq⟩ : ∃ q, q = a + k := ⟨_, rfl⟩
      rw [← hq] at cx fx hak hak2 HNX
      have HNG : Hid (¬ bb = g9) := fun e => HNB.out (by omega) (by rw [e]; rfl)
      clear hBK hGK h1 h2 hcell hbl hy hx hpw hx256 hy256 hze hq h0 hkx hcap
      go_wp2
      refine ⟨⟨k + 1, by omega, by go_num, ?_, ?_, ?_⟩, by simp [intOf]; omega⟩
      · rw [HNX.out, ← u8s_set]
        exact HBK.out.set q (.int .u8 (z : Int))
      · exact HVK.out.but (But.set1 _ _ _ _) (fun j hj _ e => by
          have : bb = j := by simpa [Value.ownBlock] using hj
          exact HNG.out (by rw [this]; exact e))
      · exact HGK.out.then (But.set1 _ _ _ _) (fun i hi e => by have := HG9.out; omega)
    · have hlti : ¬ ((k : Int) < (l : Int)) := by omega
      obtain rfl : k = l := by omega
      have hpw := HPW.out k (Nat.le_refl _)
      have HPL : Hid ((pokeTo C a ys k).length = 256) := hpw.1
      have HLA : Hid (Calls Try.prog 56 #[.pointer (some ⟨gd, 0, none⟩), .int .i64 (b : Int), .agg (u8s (pokeTo C a ys k)).toArray] wr fun e w' => e = .returned (.tuple #[]) ∧ DvTo w own gd (s.laid b (pokeTo C a ys k)) w') := by
        refine (lay_any (HDV.out.grow hGK) HB.out hpw).mono ?_
        rintro e w2 ⟨rfl, h2⟩
        exact ⟨rfl, h2.from hGK⟩
      obtain ⟨N, hN⟩ : ∃ N, N = (u8s (pokeTo C a ys k)).toArray := ⟨_, rfl⟩
      have HNE := Hid.mk' hN
      rw [← hN] at HLA
      clear hBK hVK hGK hpw hN
      go_wp2_with (first
        | (refine wpList_load_u8s Try.underlying81 i256 rfl _ rfl g9 _ HPL.out rfl HBK.out ?_; rw [← HNE.out])
        | fail)
      refine Calls.mono HLA.out ?_
      rintro e w2 ⟨rfl, h2⟩
      have H2 := Hid.mk' h2
      clear h2
      go_wp2
      go_ret
      exact ⟨rfl, by have := HL.out; subst this; exact H2.out⟩
end
end Go.Proofs.Ytfgcbcopgikodaa
/- Back: all blocks as they were kept. -/
namespace Go.Proofs.Ytfgcbcopgikodaa
open Go.RowKit

def Dev.backed (s : Dev) (k : Nat) : Dev := { s with st := s.im.getD k [], wt := [] }
theorem run_copy_k (w : World) (dT sT ty elem : TypeId) (g o dLen dCap : Nat) (a : Addr) (sLen sCap n k : Nat) (cur : Array Value) (t : TypeId) (cs : List Value)
    (hu : Try.prog.underlying dT = some (.slice elem)) (hs : (Try.prog.info? elem).map (·.size) = some k)
    (hg : w.heap[g]? = some (.cells cur t (0, 0))) (hn : n = Nat.min sLen dLen) (hcl : cs.length = n * k)
    (hsrc : ∀ j v, cs[j]? = some v → w.cell? (a.add j) = some v) (hfit : o + cs.length ≤ cur.size) (h1 : ∀ v ∈ cs, v.oneCell' = true) :
    (Builtin.copy_ #[dT, sT] ty #[.slice (some ⟨g, o, none⟩) dLen dCap, .slice (some a) sLen sCap]).run Try.prog w =
      .ok (goInt n) (w.setRow g (cur.toList.take o ++ cs ++ cur.toList.drop (o + cs.length)).toArray) := by
  have hl := run_loadCells_list (P := Try.prog) w a cs hsrc
  have hst := run_storeCells_at Try.prog g o t cs 0 cur w hg (by simpa using hfit) h1
  cases hq : Try.prog.info? elem with
  | none => simp [hq] at hs
  | some i =>
    have hi : i.size = k := by simpa [hq] using hs
    rw [hcl] at hl
    simp [Builtin.copy_, run_underlying hu, Builtin.lenOf, Builtin.firstCells, sizeOf, typeInfo, hq, hi, ← hn, hl, hst]
theorem exec_copyC {w w' : World} {o : Oper} {ρ : Operand → Value} {x y : Operand} {u v r : Value} {t : TypeId} (ho : o.op = .call { callee := .builtin .copy, args := #[x, y], argTypes := #[t, t] }) (hx : ρ x = u) (hy : ρ y = v) (h : (Builtin.copy_ #[t, t] o.type #[u, v]).run Try.prog w = .ok r w') : (execOp ρ o).run Try.prog w = .ok (.value r) w' := by
  unfold execOp
  simp only [ho, resolve, invoke, builtin, Sem.run_bind, Sem.run_pure, Result.andThen_ok, List.map_toArray, List.map_cons, List.map_nil, hx, hy, h]
theorem flat_one (m : List (List Nat)) : ∀ u ∈ m.flatMap u8s, u.oneCell' = true := fun u hu => by
  obtain ⟨c, -, hc⟩ := List.mem_flatMap.1 hu
  exact u8s_one c u hc
section
variable {w : World} {own : Owner} {gd : Nat} {s : Dev}
theorem back_arg (h : Dv w own gd s) (x : Int) (hx : ¬ (0 ≤ x ∧ x < (s.im.length : Int))) :
    Calls Try.prog 24 #[.pointer (some ⟨gd, 0, none⟩), .int .i64 x] w fun e w' => e = .returned (.int .i64 1) ∧ w' = w := by
  obtain ⟨gs, vw, bm, vi, h⟩ := h
  obtain ⟨L, hL, hrow, -⟩ := h.img.ex
  obtain ⟨ai, ci, rfl, -⟩ := hrow.shape
  have hll : L.length = s.im.length := by rw [← hL, List.length_map]
  have c3 : w.cell? ⟨gd, 3, none⟩ = some (.slice ai s.im.length ci) := by rw [← hll]; exact h.blk.cell 3
  clear h hL hrow hll
  generalize s.im.length = n at *
  by_cases h1 : x < 0
  · go_enter Try.func24, Try.ntmps24
    go_wp2
    go_ret
    exact ⟨rfl, rfl⟩
  · have h2 : (n : Int) ≤ x := by omega
    clear hx
    go_enter Try.func24, Try.ntmps24
    go_wp2
    go_ret
    exact ⟨rfl, rfl⟩
set_option maxRecDepth 100000 in
set_option maxHeartbeats 4000000 in
theorem back_any (h : Dv w own gd s) {k : Nat} (hk : k < s.im.length) :
    Calls Try.prog 24 #[.pointer (some ⟨gd, 0, none⟩), .int .i64 (k : Int)] w fun e w' => e = .returned (.int .i64 0) ∧ DvTo w own gd (s.backed k) w' := by
  obtain ⟨gs, vw, bm, vi, h⟩ := h
  have HD := Hid.mk' h
  obtain ⟨L, hL, hrow, hel⟩ := h.img.ex
  have hll : L.length = s.im.length := by rw [← hL, List.length_map]
  obtain ⟨ai, ci, rfl, hsh⟩ := hrow.shape
  obtain ⟨gi, rfl, hgi, hgil, hci⟩ := hsh (by omega)
  obtain ⟨e, he⟩ : ∃ e, L[k]? = some e := ⟨_, List.getElem?_eq_getElem (by omega)⟩
  have hpe := hel e (List.mem_of_getElem? he)
  have him : s.im.getD k [] = e.2 := by rw [← hL]; simp [List.getD, he]
  have hok := h.ok.im (s.im.getD k []) (by rw [List.getD_eq_getElem?_getD, List.getElem?_eq_getElem hk]; exact List.getElem_mem hk)
  rw [him] at hok
  obtain ⟨ap, cp, hpv, hps⟩ := hpe.shape
  have hn1 := h.ok.n1
  obtain ⟨gp, rfl, hgp, hgpl, hcp⟩ := hps (by omega)
  have ck : w.cell? ⟨gi, k, none⟩ = some e.1 := hci k e.1 (by simp [he])
  rw [hpv] at ck
  obtain ⟨n, hn⟩ : ∃ n, n = s.st.length := ⟨_, rfl⟩
  rw [← hn] at ck
  obtain ⟨m, hm⟩ : ∃ m, m = s.im.length := ⟨_, rfl⟩
  have hki : (k : Int) < (m : Int) := by omega
  have c3 : w.cell? ⟨gd, 3, none⟩ = some (.slice (some ⟨gi, 0, none⟩) m ci) := by rw [hm, ← hll]; exact h.blk.cell 3
  have HC3 := Hid.mk' c3
  have HCK := Hid.mk' ck
  have HN := Hid.mk' hn
  have HOI := Hid.mk' hok
  have HIM := Hid.mk' him
  have HCP : Hid (∀ j u, (e.2.flatMap u8s)[j]? = some u → w.cell? ((⟨gp, 0, none⟩ : Addr).add j) = some u) := fun j u hj => by rw [addr_add, Nat.zero_add]; exact hcp j u hj
  have HFL : Hid ((e.2.flatMap u8s).length = n * 256) := by
    show _ = _
    rw [flat_len (s := 256) _ (fun c hc => by rw [u8s_len]; exact (hok.2 c hc).1), hok.1, hn]
  have HSF : Hid ((s.st.flatMap u8s).length = n * 256) := by
    show _ = _
    rw [flat_len (s := 256) _ (fun c hc => by rw [u8s_len]; exact (h.ok.st c hc).1), hn]
  have HGI : Hid (gi < w.heap.size ∧ ¬ gi = gs) := ⟨hgil, fun e => by have hgi : own gi = .imr := hgi; rw [e, h.stt] at hgi; cases hgi⟩
  have HGP : Hid (¬ gp = gs) := fun e => by have hgp : own gp = .pic := hgp; rw [e, h.stt] at hgp; cases hgp
  have HGD : Hid (¬ gd = gs) := fun e => by have := h.tag; rw [e, h.stt] at this; cases this
  have hk0 : ¬ ((k : Int) < 0) := by omega
  have hkm : ¬ ((m : Int) ≤ (k : Int)) := by omega
  clear h hL hrow hel hll hsh hgi hgil hci he hpe him hok hpv hps hgp hgpl hcp hn hm hn1 hk
  go_enter Try.func24, Try.ntmps24
  go_upto_region 5 with fail
  clear c3 ck
  refine region_chain [([0, 1, 2, 3, 4, 5, 6, 7, 8, 9, 10], 11)] [] (But (· = gs) w) (Grow w) (by kernel_rfl) (by kernel_rfl) (fun _ _ h k => h.trans k) (fun _ h => h.mono (fun _ _ h => h.elim)) ((But.refl _ w).drew) ?_
  intro ι hne X hX
  have c0 : ∀ x, (X x).cell? ⟨gd, 0, none⟩ = some (.slice (some ⟨gs, 0, none⟩) n n) := fun x => by rw [HN.out]; exact (HD.out.blk.but (hX x) HGD.out).cell 0
  have c3 : ∀ x, (X x).cell? ⟨gd, 3, none⟩ = some (.slice (some ⟨gi, 0, none⟩) m ci) := fun x => (World.cell?_of_block ((hX x).block gd HD.out.blk.lt HGD.out)).trans HC3.out
  have ck : ∀ x, (X x).cell? ⟨gi, k, none⟩ = some (.slice (some ⟨gp, 0, none⟩) n cp) := fun x => (World.cell?_of_block ((hX x).block gi HGI.out.1 HGI.out.2)).trans HCK.out
  iterate 11 (refine still_step rfl (fun K hK => ?_); go_simp; refine hK _ ?_; clear hK K)
  refine still_nil ?_
  clear c0 c3 ck hX hne
  refine turn_run rfl rfl (fun _ w' => ∃ w5, But (· = gs) w w5 ∧ Blk w5 gs 81 (e.2.flatMap u8s) ∧ Grow w5 w') (fun _ => But (· = gs) w) (fun _ w4 w5 ⟨w6, h1, h2, h3⟩ k => ⟨w6, h1, h2, h3.trans k⟩) (fun _ _ ⟨w6, h1, h2, h3⟩ => h1.trans (h3.mono (fun _ _ h => h.elim))) (.inr (fun _ _ h => h)) ?_ ?_
  · intro w4 h4
    have hb0 := HD.out.sto.but h4 (fun h => h)
    have hcp := run_copy_k w4 74 74 3 81 gs 0 n n ⟨gp, 0, none⟩ n cp n 256 _ _ (e.2.flatMap u8s) Try.underlying74 i256 hb0 (Nat.min_self n).symm HFL.out (fun j u hj => by
      have := HCP.out j u hj
      rw [addr_add] at this ⊢
      exact grow_cell h4 this) (by rw [HFL.out, List.size_toArray, HSF.out]; omega) (flat_one _)
    refine ⟨_, _, .inl (exec_copyC rfl rfl rfl hcp), _, (But.setRow (R := (· = gs)) (h4.mono (fun _ _ h => h.elim)) (fun _ => rfl) _), ?_, But.refl _ _⟩
    have e1 : (s.st.flatMap u8s).toArray.toList.take 0 ++ e.2.flatMap u8s ++ (s.st.flatMap u8s).toArray.toList.drop (0 + (e.2.flatMap u8s).length) = e.2.flatMap u8s := by
      rw [List.take_zero, List.nil_append, List.drop_of_length_le (by show (s.st.flatMap u8s).length ≤ _; rw [HSF.out, HFL.out]; omega), List.append_nil]
    rw [e1]
    exact hb0.row _
  rintro v5 - Y hY
  go_simp
  refine hY _ ?_
  clear hY Y
  intro ι hne X hX
  refine still_nil ?_
  clear hX hne
  rintro w6 ⟨w5, h1, h2, h3⟩
  have hd6 := (HD.out.store h1 h2 HOI.out.1 HOI.out.2).but h3 (fun _ _ h => h)
  have HB6 : Hid (But (fun b => own b ≠ .none) w w6) := (h1.mono (fun c _ e => by rw [e, HD.out.stt]; decide)).trans (h3.mono (fun _ _ h => h.elim))
  obtain ⟨M', hM', -, -⟩ := hd6.map.ex
  obtain ⟨w7, hcl, hM7, hb7, -⟩ := hM'.clear (t := 76) Try.underlying76 0
  have HCL := Hid.mk' hcl
  have HFIN : Hid (DvTo w own gd (s.backed k) w7) := by
    refine ⟨HB6.out.trans (hb7.mono (fun b _ e => by rw [e, hd6.mat]; decide)), own, Fresh.refl _ _, gs, vw, bm, .slice (some ⟨gi, 0, none⟩) L.length ci, ?_⟩
    have h5 := hd6.maps (wt' := []) hb7 ⟨[], hM7, fun p hp => absurd hp List.not_mem_nil, fun b hb => absurd rfl hb⟩ .nil (fun i hi => absurd hi List.not_mem_nil)
    unfold Dev.backed
    rw [HIM.out]
    exact h5
  have c2 : w6.cell? ⟨gd, 2, none⟩ = some (.map (some bm)) := hd6.blk.cell 2
  clear h1 h2 h3 hd6 hM' hcl hM7 hb7
  go_wp2_with (first
    | (refine wpList_run rfl (exec_clear rfl rfl HCL.out) ?_)
    | fail)
  go_ret
  exact ⟨rfl, HFIN.out⟩
end
end Go.Proofs.Ytfgcbcopgikodaa
