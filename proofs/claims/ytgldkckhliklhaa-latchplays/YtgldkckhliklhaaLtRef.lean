/- The reference's table of latches in memory: Holds, Waits, without. -/
import Derived.Test.YtgldkckhliklhaaLtSet
import Derived.Test.YtgldkckhliklhaaLtLaw
import Derived.Test.YtgldkckhliklhaaOwnRow
import Derived.Test.YtgldkckhliklhaaNumsMore
import Derived.Test.YtgldkckhliklhaaQuDel
import Derived.Deep.Cut
namespace Go.Proofs.Ytgldkckhliklhaa
open Go.RowKit

def wnc (x : Wt) : List Value := [.int .i64 x.1, .int .i64 x.2.1, .bool x.2.2]
theorem wnc_len (x : Wt) : (wnc x).length = 3 := rfl
theorem infWn : (Try.prog.info? 64).map (fun i => (i.zero, i.size, i.bytes)) = some (some (.agg #[.int .i64 0, .int .i64 0, .bool false]), 3, 24) := by kernel_rfl
theorem iWn : (Try.prog.info? 64).map (·.size) = some 3 := by kernel_rfl
theorem iWs : (Try.prog.info? 26).map (·.size) = some 1 := by kernel_rfl
theorem wnc_one (x : Wt) : ∀ u ∈ wnc x, u.oneCell' = true := by
  intro u hu
  unfold wnc at hu
  simp only [List.mem_cons, List.not_mem_nil, or_false] at hu
  rcases hu with rfl | rfl | rfl <;> rfl
theorem wns_one (L : List Wt) : ∀ u ∈ L.flatMap wnc, u.oneCell' = true := fun u hu => by
  obtain ⟨x, -, hx⟩ := List.mem_flatMap.1 hu
  exact wnc_one x u hx
/-- The blocks of the reference's table. -/
def RS (gx : Nat) (vh vq : Value) : Nat → Prop := fun b => b = gx ∨ vh.ownBlock = some b ∨ vq.ownBlock = some b
structure Rt (w : World) (gx : Nat) (vh vq : Value) (s : Ls) : Prop where
  blk : Blk w gx 28 [vh, vq]
  rh : w.ownsRow 0 64 3 vh s.has.length (s.has.flatMap wnc)
  rq : w.ownsRow 0 64 3 vq s.q.length (s.q.flatMap wnc)
  dh : ∀ b, vh.ownBlock = some b → b ≠ gx ∧ vq.ownBlock ≠ some b
  dq : ∀ b, vq.ownBlock = some b → b ≠ gx
  lh : s.has.length ≤ 10000
  lq : s.q.length ≤ 10000
def RtTo (w : World) (gx : Nat) (vh vq : Value) (s : Ls) (w' : World) : Prop := ∃ vh' vq', Rt w' gx vh' vq' s ∧ But (RS gx vh vq) w w' ∧ ∀ b, RS gx vh' vq' b → RS gx vh vq b ∨ w.heap.size ≤ b
theorem own_lt {w : World} {base e s n : Nat} {v : Value} {xs : List Value} (h : w.ownsRow base e s v n xs) {k : Nat} (hk : v.ownBlock = some k) : k < w.heap.size := by
  obtain ⟨-, ⟨rfl, -⟩ | ⟨g, c, cu, rfl, -, hb, -⟩⟩ := h
  · cases hk
  · cases hk; exact lt_of_block hb
section
variable {w w' w1 w2 : World} {gx : Nat} {vh vq vh' vq' : Value} {s s' : Ls} {R : Nat → Prop} {q' h' : List Wt}
theorem Rt.but (h : Rt w gx vh vq s) (k : But R w w') (hr : ∀ b, RS gx vh vq b → ¬ R b) : Rt w' gx vh vq s :=
  ⟨h.blk.but k (hr gx (.inl rfl)), ownsRow_but h.rh k (fun j hj => hr j (.inr (.inl hj))), ownsRow_but h.rq k (fun j hj => hr j (.inr (.inr hj))), h.dh, h.dq, h.lh, h.lq⟩
theorem Rt.grow (h : Rt w gx vh vq s) (k : Grow w w') : Rt w' gx vh vq s := h.but k (fun _ _ h => h)
theorem Rt.lt (h : Rt w gx vh vq s) {b : Nat} (hb : RS gx vh vq b) : b < w.heap.size := by
  rcases hb with rfl | hb | hb
  · exact h.blk.lt
  · exact own_lt h.rh hb
  · exact own_lt h.rq hb
theorem Rt.same (h : Rt w gx vh vq s) (k : Grow w w') : RtTo w gx vh vq s w' := ⟨vh, vq, h.grow k, k.mono (fun _ _ h => h.elim), fun _ h => .inl h⟩
theorem RtTo.next (h : But (RS gx vh vq) w w1) (hs : ∀ b, RS gx vh' vq' b → RS gx vh vq b ∨ w.heap.size ≤ b) (k : RtTo w1 gx vh' vq' s' w2) : RtTo w gx vh vq s' w2 := by
  obtain ⟨a, b, k1, k2, k3⟩ := k
  refine ⟨a, b, k1, h.then k2 (fun i hi e => (hs i e).resolve_right (by omega)), fun j hj => ?_⟩
  rcases k3 j hj with e | e
  · exact hs j e
  · exact .inr (Nat.le_trans h.size e)
/-- Another queue. -/
theorem Rt.putQ (h : Rt w gx vh vq s) (k : But (fun b => vq.ownBlock = some b) w w1) (hrow : w1.ownsRow 0 64 3 vq' q'.length (q'.flatMap wnc)) (hv : ∀ b, vq'.ownBlock = some b → vq.ownBlock = some b ∨ w.heap.size ≤ b) (hl : q'.length ≤ 10000) :
    Rt (w1.setCell ⟨gx, 1, none⟩ vq') gx vh vq' ⟨s.has, q'⟩ ∧ But (RS gx vh vq) w (w1.setCell ⟨gx, 1, none⟩ vq') ∧ ∀ b, RS gx vh vq' b → RS gx vh vq b ∨ w.heap.size ≤ b := by
  have hb1 := h.blk.but k (fun e => h.dq gx e rfl)
  have hgx := h.blk.lt
  have ks := But.set1 w1 gx 1 vq'
  have hdq' : ∀ b, vq'.ownBlock = some b → b ≠ gx := fun b hb e => by
    rcases hv b hb with e1 | e1
    · exact h.dq b e1 e
    · omega
  refine ⟨⟨hb1.set 1 vq', ownsRow_but (ownsRow_but h.rh k (fun j hj e => (h.dh j hj).2 e)) ks (fun j hj => (h.dh j hj).1), ownsRow_but hrow ks (fun j hj => hdq' j hj), fun b hb => ⟨(h.dh b hb).1, fun e => ?_⟩, hdq', h.lh, hl⟩, (k.mono (fun b _ e => .inr (.inr e))).trans (ks.mono (fun b _ e => .inl e)), fun b hb => ?_⟩
  · rcases hv b e with e1 | e1
    · exact (h.dh b hb).2 e1
    · have := own_lt h.rh hb; omega
  · rcases hb with e | e | e
    · exact .inl (.inl e)
    · exact .inl (.inr (.inl e))
    · rcases hv b e with e1 | e1
      · exact .inl (.inr (.inr e1))
      · exact .inr e1
/-- Another list of those that have something. -/
theorem Rt.putH (h : Rt w gx vh vq s) (k : But (fun b => vh.ownBlock = some b) w w1) (hrow : w1.ownsRow 0 64 3 vh' h'.length (h'.flatMap wnc)) (hv : ∀ b, vh'.ownBlock = some b → vh.ownBlock = some b ∨ w.heap.size ≤ b) (hl : h'.length ≤ 10000) :
    Rt (w1.setCell ⟨gx, 0, none⟩ vh') gx vh' vq ⟨h', s.q⟩ ∧ But (RS gx vh vq) w (w1.setCell ⟨gx, 0, none⟩ vh') ∧ ∀ b, RS gx vh' vq b → RS gx vh vq b ∨ w.heap.size ≤ b := by
  have hb1 := h.blk.but k (fun e => (h.dh gx e).1 rfl)
  have hgx := h.blk.lt
  have ks := But.set1 w1 gx 0 vh'
  have hdh' : ∀ b, vh'.ownBlock = some b → b ≠ gx := fun b hb e => by
    rcases hv b hb with e1 | e1
    · exact (h.dh b e1).1 e
    · omega
  refine ⟨⟨hb1.set 0 vh', ownsRow_but hrow ks (fun j hj => hdh' j hj), ownsRow_but (ownsRow_but h.rq k (fun j hj e => (h.dh j e).2 hj)) ks (fun j hj => h.dq j hj), fun b hb => ⟨hdh' b hb, fun e => ?_⟩, h.dq, hl, h.lq⟩, (k.mono (fun b _ e => .inr (.inl e))).trans (ks.mono (fun b _ e => .inl e)), fun b hb => ?_⟩
  · rcases hv b hb with e1 | e1
    · exact (h.dh b e1).2 e
    · have := own_lt h.rq e; omega
  · rcases hb with e | e | e
    · exact .inl (.inl e)
    · rcases hv b e with e1 | e1
      · exact .inl (.inr (.inl e1))
      · exact .inr e1
    · exact .inl (.inr (.inr e))
theorem Rt.hrow (h : Rt w gx vh vq s) : RowOf w (fun _ => True) 64 3 vh s.has.length (s.has.flatMap wnc) := ⟨h.rh, fun _ _ => trivial⟩
theorem Rt.qrow (h : Rt w gx vh vq s) : RowOf w (fun _ => True) 64 3 vq s.q.length (s.q.flatMap wnc) := ⟨h.rq, fun _ _ => trivial⟩
end
theorem find_at {α : Type} {p : α → Bool} : ∀ {L : List α} {i : Nat} {x : α}, (∀ j, j < i → ∀ y, L[j]? = some y → p y = false) → L[i]? = some x → p x = true → L.find? p = some x
  | [], i, x, _, h, _ => by simp at h
  | y :: L, 0, x, _, h, hp => by
    have e : y = x := by simpa using h
    subst e
    rw [List.find?_cons, hp]
  | y :: L, i + 1, x, h0, h, hp => by
    have hy : p y = false := h0 0 (by omega) y rfl
    rw [List.find?_cons, hy]
    exact find_at (L := L) (i := i) (fun j hj z hz => h0 (j + 1) (by omega) z (by simpa using hz)) (by simpa using h) hp
theorem find_no {α : Type} {p : α → Bool} {L : List α} {n : Nat} (hn : L.length ≤ n) (h : ∀ j, j < n → ∀ y, L[j]? = some y → p y = false) : L.find? p = none := by
  rw [List.find?_eq_none]
  intro x hx
  obtain ⟨j, hj⟩ := List.getElem?_of_mem hx
  rw [h j (by have := (List.getElem?_eq_some_iff.1 hj).1; omega) x hj]
  decide
section
variable {w : World} {gx : Nat} {vh vq : Value} {s : Ls}
set_option maxRecDepth 100000 in
set_option maxHeartbeats 1000000 in
theorem rhold_any (h : Rt w gx vh vq s) (t k : Int) : Calls Try.prog 19 #[ptr gx, .int .i64 t, .int .i64 k] w fun e w' => e = .returned (.int .i64 (s.hold t k)) ∧ w' = w := by
  obtain ⟨n, hn⟩ : ∃ n, n = s.has.length := ⟨_, rfl⟩
  obtain ⟨ao, cap, e, -⟩ := h.hrow.shape
  rw [← hn] at e
  have HR := Hid.mk' h.hrow
  have c0 : w.cell? ⟨gx, 0, none⟩ = some vh := h.blk.cell 0
  have hnb : (n : Int) ≤ 10000 := by have := h.lh; omega
  rw [e] at HR c0
  have HN := Hid.mk' hn
  clear h e hn
  go_enter Try.func19, Try.ntmps19
  go_wp2
  go_loopw [7] (fun iv wr => ∃ i : Nat, i ≤ n ∧ iv = .int .i64 i ∧ (∀ j, j < i → ∀ y, s.has[j]? = some y → (y.1 == t && y.2.1 == k) = false) ∧ wr = w) (fun iv _ => n - (intOf iv).toNat)
  case atStart => exact ⟨0, Nat.zero_le _, rfl, fun j hj => absurd hj (by omega), rfl⟩
  case round =>
    obtain ⟨i, hin, rfl, hno, hwx⟩ := hrel
    have h2 := hwx.symm
    subst h2
    clear hwx
    have HNO := Hid.mk' hno
    clear hno
    by_cases hlt : i < n
    · have hlti : (i : Int) < (n : Int) := by omega
      obtain ⟨⟨xt, xk, xa⟩, hx⟩ : ∃ e, s.has[i]? = some e := ⟨_, List.getElem?_eq_getElem (by have := HN.out; omega)⟩
      obtain ⟨g, cp, e1, -, hcell⟩ := HR.out.cellAt (fun e _ => wnc_len e) hx
      simp only [Value.slice.injEq] at e1
      obtain ⟨rfl, -, rfl⟩ := e1
      have d0 : w.cell? ⟨g, i * 3, none⟩ = some (.int .i64 xt) := hcell 0 _ rfl
      have d1 : w.cell? ⟨g, i * 3 + 1, none⟩ = some (.int .i64 xk) := hcell 1 _ rfl
      have d2 : w.cell? ⟨g, i * 3 + 2, none⟩ = some (.bool xa) := hcell 2 _ rfl
      have HX := Hid.mk' hx
      clear hcell hx
      have key : (xt == t && xk == k) = false → ∀ j, j < i + 1 → ∀ y, s.has[j]? = some y → (y.1 == t && y.2.1 == k) = false := fun hf j hj y hy => by
        rcases Nat.lt_succ_iff_lt_or_eq.1 hj with h1 | h1
        · exact HNO.out j h1 y hy
        · rw [h1, HX.out] at hy
          cases hy
          exact hf
      have HKEY := Hid.mk' key
      clear key
      cases h1 : (xt == t) with
      | false =>
        have HST := Hid.mk' (HKEY.out (by rw [h1]; rfl))
        go_wp2
        exact ⟨⟨i + 1, by omega, by go_num, HST.out, trivial⟩, by simp [intOf]; omega⟩
      | true =>
        cases h2 : (xk == k) with
        | false =>
          have HST := Hid.mk' (HKEY.out (by rw [h1, h2]; rfl))
          go_wp2
          exact ⟨⟨i + 1, by omega, by go_num, HST.out, trivial⟩, by simp [intOf]; omega⟩
        | true =>
          have HFD : Hid (s.hold t k = mode (xt, xk, xa)) := by
            show _ = _
            unfold Ls.hold
            rw [find_at HNO.out HX.out (by rw [h1, h2]; rfl)]
            rfl
          cases xa with
          | true =>
            go_wp2
            go_ret
            exact ⟨by rw [HFD.out]; rfl, rfl⟩
          | false =>
            go_wp2
            go_ret
            exact ⟨by rw [HFD.out]; rfl, rfl⟩
    · have HFD : Hid (s.hold t k = 0) := by
        show _ = _
        unfold Ls.hold
        rw [find_no (n := i) (by have := HN.out; omega) HNO.out]
        rfl
      have hlti : ¬ ((i : Int) < (n : Int)) := by omega
      go_wp2
      go_ret
      exact ⟨by rw [HFD.out]; rfl, rfl⟩
set_option maxRecDepth 100000 in
set_option maxHeartbeats 1000000 in
theorem rwaits_any (h : Rt w gx vh vq s) (t : Int) : Calls Try.prog 17 #[ptr gx, .int .i64 t] w fun e w' => e = .returned (.tuple #[.int .i64 (s.waitK t), .bool (s.wait t)]) ∧ w' = w := by
  obtain ⟨n, hn⟩ : ∃ n, n = s.q.length := ⟨_, rfl⟩
  obtain ⟨ao, cap, e, -⟩ := h.qrow.shape
  rw [← hn] at e
  have HR := Hid.mk' h.qrow
  have c0 : w.cell? ⟨gx, 1, none⟩ = some vq := h.blk.cell 1
  have hnb : (n : Int) ≤ 10000 := by have := h.lq; omega
  rw [e] at HR c0
  have HN := Hid.mk' hn
  clear h e hn
  go_enter Try.func17, Try.ntmps17
  go_wp2
  go_loopw [6] (fun iv wr => ∃ i : Nat, i ≤ n ∧ iv = .int .i64 i ∧ (∀ j, j < i → ∀ y, s.q[j]? = some y → (y.1 == t) = false) ∧ wr = w) (fun iv _ => n - (intOf iv).toNat)
  case atStart => exact ⟨0, Nat.zero_le _, rfl, fun j hj => absurd hj (by omega), rfl⟩
  case round =>
    obtain ⟨i, hin, rfl, hno, hwx⟩ := hrel
    have h2 := hwx.symm
    subst h2
    clear hwx
    have HNO := Hid.mk' hno
    clear hno
    by_cases hlt : i < n
    · have hlti : (i : Int) < (n : Int) := by omega
      obtain ⟨⟨xt, xk, xa⟩, hx⟩ : ∃ e, s.q[i]? = some e := ⟨_, List.getElem?_eq_getElem (by have := HN.out; omega)⟩
      obtain ⟨g, cp, e1, -, hcell⟩ := HR.out.cellAt (fun e _ => wnc_len e) hx
      simp only [Value.slice.injEq] at e1
      obtain ⟨rfl, -, rfl⟩ := e1
      have d0 : w.cell? ⟨g, i * 3, none⟩ = some (.int .i64 xt) := hcell 0 _ rfl
      have d1 : w.cell? ⟨g, i * 3 + 1, none⟩ = some (.int .i64 xk) := hcell 1 _ rfl
      have HX := Hid.mk' hx
      clear hcell hx
      cases h1 : (xt == t) with
      | false =>
        have HST : Hid (∀ j, j < i + 1 → ∀ y, s.q[j]? = some y → (y.1 == t) = false) := fun j hj y hy => by
          rcases Nat.lt_succ_iff_lt_or_eq.1 hj with h3 | h3
          · exact HNO.out j h3 y hy
          · rw [h3, HX.out] at hy
            cases hy
            exact h1
        go_wp2
        exact ⟨⟨i + 1, by omega, by go_num, HST.out, trivial⟩, by simp [intOf]; omega⟩
      | true =>
        have hfd := find_at (p := fun y : Wt => y.1 == t) HNO.out HX.out h1
        have HFD : Hid (s.waitK t = xk ∧ s.wait t = true) := by
          refine ⟨?_, ?_⟩
          · unfold Ls.waitK
            rw [hfd]
            rfl
          · unfold Ls.wait
            rw [List.any_eq_true]
            exact ⟨_, List.mem_of_getElem? HX.out, h1⟩
        clear hfd
        go_wp2
        go_ret2
        exact ⟨by rw [HFD.out.1, HFD.out.2]; rfl, rfl⟩
    · have hfd := find_no (p := fun y : Wt => y.1 == t) (n := i) (by have := HN.out; omega) HNO.out
      have HFD : Hid (s.waitK t = 0 ∧ s.wait t = false) := by
        refine ⟨?_, ?_⟩
        · unfold Ls.waitK
          rw [hfd]
          rfl
        · unfold Ls.wait
          rw [List.any_eq_false]
          exact fun x hx => List.find?_eq_none.1 hfd x hx
      have hlti : ¬ ((i : Int) < (n : Int)) := by omega
      clear hfd
      go_wp2
      go_ret2
      exact ⟨by rw [HFD.out.1, HFD.out.2]; rfl, rfl⟩
end
section
variable {w : World} {v : Value} {L : List Wt}
set_option maxRecDepth 100000 in
set_option maxHeartbeats 1000000 in
theorem rwithout_any (h : w.ownsRow 0 64 3 v L.length (L.flatMap wnc)) (hl : L.length ≤ 10000) (t : Int) : Calls Try.prog 25 #[v, .int .i64 t] w fun e w' => ∃ v', e = .returned v' ∧ w'.ownsRow 0 64 3 v' (wo t L).length ((wo t L).flatMap wnc) ∧ (∀ k, v'.ownBlock = some k → w.heap.size ≤ k) ∧ Grow w w' := by
  have hro : RowOf w (fun _ => True) 64 3 v L.length (L.flatMap wnc) := ⟨h, fun _ _ => trivial⟩
  have HH := Hid.mk' hro
  obtain ⟨n, hn⟩ : ∃ n, n = L.length := ⟨_, rfl⟩
  obtain ⟨ao, cap, e, -⟩ := hro.shape
  rw [← hn] at e
  subst e
  have HN := Hid.mk' hn
  have hnb : (n : Int) ≤ 10000 := by omega
  clear h hn hl hro
  go_enter Try.func25, Try.ntmps25
  go_wp2
  go_loopw [5, 6] (fun rv iv wr => ∃ (i : Nat) (r : Value), i ≤ n ∧ iv = .int .i64 i ∧ r = rv ∧ wr.ownsRow 0 64 3 r (wo t (L.take i)).length ((wo t (L.take i)).flatMap wnc) ∧ (∀ k, r.ownBlock = some k → w.heap.size ≤ k) ∧ Grow w wr) (fun _ iv _ => n - (intOf iv).toNat)
  case atStart => exact ⟨0, _, Nat.zero_le _, rfl, rfl, by rw [List.take_zero]; exact World.ownsRow_nil _ _ _ _, (fun k hk => by cases hk), But.refl _ _⟩
  case round =>
    rename_i rv
    obtain ⟨i, r, hin, rfl, rfl, hT, hV, hG⟩ := hrel
    have HT := Hid.mk' hT
    have HV := Hid.mk' hV
    have HG := Hid.mk' hG
    by_cases hlt : i < n
    · have hlti : (i : Int) < (n : Int) := by omega
      obtain ⟨⟨qt, qk, qa⟩, hq⟩ : ∃ e, L[i]? = some e := ⟨_, List.getElem?_eq_getElem (by have := HN.out; omega)⟩
      obtain ⟨g, cp, e1, -, hcell⟩ := (HH.out.but hG (fun _ _ h => h) (fun _ h => h)).cellAt (fun e _ => wnc_len e) hq
      simp only [Value.slice.injEq] at e1
      obtain ⟨rfl, -, rfl⟩ := e1
      have c3 : wr.cell? ⟨g, i * 3, none⟩ = some (.int .i64 qt) := hcell 0 _ rfl
      have HCW : Hid (∀ c u, (wnc (qt, qk, qa))[c]? = some u → wr.cell? ((⟨g, i * 3, none⟩ : Addr).add c) = some u) := fun c u hc => by
        rw [addr_add]; exact hcell c u hc
      have HNX : Hid (wo t (L.take (i + 1)) = wo t (L.take i) ++ (if qt == t then [] else [(qt, qk, qa)])) := by
        show _ = _
        have hi := List.getElem?_eq_some_iff.1 hq
        rw [List.take_succ_eq_append_getElem hi.1, wo_append, hi.2]
        congr 1
        unfold wo
        rw [List.filter_cons]
        cases (qt == t) <;> rfl
      clear hT hV hG hcell hq
      by_cases hk : qt = t
      · have hqi : (qt != t) = false := by simpa using hk
        have HN2 : Hid (wo t (L.take (i + 1)) = wo t (L.take i)) := by show _ = _; rw [HNX.out, if_pos (by simpa using hk), List.append_nil]
        clear hk
        go_wp2
        exact ⟨⟨i + 1, r, by omega, by go_num, rfl, by rw [HN2.out]; exact HT.out, HV.out, HG.out⟩, by simp [intOf]; omega⟩
      · have hqi : (qt != t) = true := by simpa using hk
        have HN2 : Hid (wo t (L.take (i + 1)) = wo t (L.take i) ++ [(qt, qk, qa)]) := by show _ = _; rw [HNX.out, if_neg (by simpa using hk)]
        obtain ⟨F, hF⟩ : ∃ F, F = wo t (L.take i) := ⟨_, rfl⟩
        rw [← hF] at HT HN2
        have HFL : Hid (F.length ≤ 100000) := by
          show _ ≤ _
          have h5 : F.length ≤ (L.take i).length := by rw [hF]; exact List.length_filter_le _ _
          rw [List.length_take] at h5
          omega
        have HAL : Hid (Grow wr (wr.alloc (.cells #[.int .i64 qt, .int .i64 qk, .bool qa] 64))) := (But.refl _ wr).alloc _
        have HBL : Hid (Blk (wr.alloc (.cells #[.int .i64 qt, .int .i64 qk, .bool qa] 64)) wr.heap.size 64 (wnc (qt, qk, qa))) := Blk.new (L := wnc (qt, qk, qa)) rfl
        clear hk hF HNX
        go_wp2_with (first
          | (refine wpList_load_cells rfl _ _ rfl ⟨g, i * 3, none⟩ rfl (wnc (qt, qk, qa)) _ HCW.out Try.underlying64 rfl iWn ?_)
          | (refine wpList_runH rfl (exec_row1 Try.underlying26 infWn (by decide) (by decide) rfl rfl rfl) ?_)
          | (refine wpList_someH rfl (exec_append (v := r) (n := F.length) (xs := F.flatMap wnc) (news := wnc (qt, qk, qa)) Try.underlying26 infWn rfl (by decide) rfl rfl (ownsRow_grow HT.out HAL.out) rfl rfl (fun j u hj => HBL.out.cells0 j u hj) (wnc_one _) (by have := HFL.out; omega) (by decide)) ?_; intro v4 w4 hap)
          | fail)
        refine ⟨⟨i + 1, v4, by omega, by go_num, rfl, ?_, fun k hk => ?_, ?_⟩, by simp [intOf]; omega⟩
        · rw [HN2.out, List.length_append, List.length_singleton, List.flatMap_append, show ([(qt, qk, qa)] : List Wt).flatMap wnc = wnc (qt, qk, qa) by simp]
          exact hap.own
        · rcases hap.at' with e | e
          · exact HV.out k (by rw [← e]; exact hk)
          · rw [e] at hk
            have := Option.some.inj hk
            have := HG.out.size
            have := HAL.out.size
            omega
        · exact (HG.out.trans HAL.out).then hap.but (fun b hb e => by have := HV.out b e; omega)
    · have hlti : ¬ ((i : Int) < (n : Int)) := by omega
      have hE : L.take i = L := List.take_of_length_le (by have := HN.out; omega)
      rw [hE] at HT
      clear hT hV hG hE
      go_wp2
      go_ret
      exact ⟨_, rfl, HT.out, HV.out, HG.out⟩
end
end Go.Proofs.Ytgldkckhliklhaa
