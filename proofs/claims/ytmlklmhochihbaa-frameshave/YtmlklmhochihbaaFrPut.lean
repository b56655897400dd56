/- frames: Put. -/
import Derived.Test.YtmlklmhochihbaaFrDo
namespace Go.Proofs.Ytmlklmhochihbaa
open Go.RowKit Go.Maps

theorem put_nil (w : World) (K : Int) (v : Value) (q : Bool) : Calls Try.prog 16 #[.pointer none, .int .i64 K, v, .bool q] w fun e w' => e = .returned (.int .i64 5) ∧ w' = w := by
  go_enter Try.func16, Try.ntmps16
  go_wp2
  go_ret
  exact ⟨rfl, rfl⟩
section
variable {w w' : World} {own own' : Owner} {gt gr gf gp gh gm : Nat} {fb : Int → Nat} {PL : List (Int × Int)} {s s' : St} {R : Nat → Prop}
theorem FtTo.then {own2 : Owner} {W : World} (hE : Ext own own2) (hF : Fresh w own own2) (hb : But (Wr own) w W) (h : FtTo W own2 gt s w') : FtTo w own gt s w' := by
  obtain ⟨o, h1, h2, h3⟩ := h.ex
  refine ⟨⟨o, h1, hE.trans h2, fun b hne => ?_⟩, hb.then h.but (fun b hbl e => ?_)⟩
  · by_cases e : own2 b = own b
    · exact Nat.le_trans hb.size (h3 b (by rw [e]; exact hne))
    · exact hF b e
  · have : own2 b = own b := by
      by_cases e2 : own2 b = own b
      · exact e2
      · have := hF b e2; omega
    unfold Wr at e ⊢
    rw [this] at e; exact e
/-- Bytes are laid into a frame that is there. -/
theorem Fm.putTail {W1 : World} (h : Fm w own gt gr gf gp gh gm fb PL s) {e0 : FrE} (he0 : e0 ∈ s.fr) {v : Value} {xs : List Nat} (q : Bool) (hg : Grow w W1) (hv : Ow W1 w.heap.size v xs) (hl : xs.length ≤ 1000000) :
    FtTo w own gt { s with fr := St.laid s.fr e0.1 xs q } ((W1.setCell ⟨fb e0.1, 0, none⟩ v).setCell ⟨fb e0.1, 1, none⟩ (.bool (e0.2.2 || q))) := by
  have h1 := h.grow hg
  obtain ⟨u, hb, hu⟩ := h1.each e0 he0
  have k1 := But.set1 W1 (fb e0.1) 0 v
  have k2 := But.set1 (W1.setCell ⟨fb e0.1, 0, none⟩ v) (fb e0.1) 1 (.bool (e0.2.2 || q))
  have hge := hv.ge
  have hnf : ∀ j, v.ownBlock = some j → ¬ (j = fb e0.1) := fun j hj e => by
    have h2 := (hge j hj).1
    have h3 := h.top j h2
    rw [e, h.ofb e0 he0] at h3
    cases h3
  have hE : Ext own (tagV own v tByt) := Ext.tagV (fun k hk => .inl (h.top k (hge k hk).1))
  have hT : Top W1 (tagV own v tByt) := h1.top.tagV (fun k hk => (hge k hk).2)
  have h2 := h1.store he0 (own' := tagV own v tByt) (v := v) (b := xs) (wr := e0.2.2 || q) hE (hT.grow (k1.trans k2).size) (k1.trans k2) hl ((hb.set 0 v).set 1 (.bool (e0.2.2 || q))) (by
    refine ⟨hv.bs.but (k1.trans k2) (fun j hj _ => hnf j hj), fun _ j hj => tagV_own hj⟩)
  have e1 : ({ s with fr := s.fr.map (fun e => if e.1 == e0.1 then (e.1, xs, e0.2.2 || q) else e) } : St) = { s with fr := St.laid s.fr e0.1 xs q } := by
    congr 1
    unfold St.laid
    apply List.map_congr_left
    intro e he
    by_cases hq : e.1 = e0.1
    · rw [one_key h.ok.nd he he0 hq]
    · have : (e.1 == e0.1) = false := by simpa using hq
      simp [this]
  rw [e1] at h2
  refine ⟨⟨_, ⟨_, _, _, _, _, _, _, h2⟩, hE, (Fresh.refl _ _).tagV (fun k hk => .inl (hge k hk).1)⟩, ?_⟩
  exact (hg.mono (fun _ _ h => h.elim)).trans ((k1.trans k2).mono (fun b _ e => by rw [e]; exact h.wrF he0))
theorem St.put_has {K : Int} {xs : List Nat} {q : Bool} (hh : s.has K = true) : s.put K xs q = { s with fr := St.laid s.fr K xs q } := by unfold St.put; rw [if_pos hh]
theorem St.put_new {K : Int} {xs : List Nat} {q : Bool} (hh : s.has K = false) (hl : s.fr.length < s.most) : s.put K xs q = { s with fr := St.laid (s.fr ++ [(K, [], false)]) K xs q } := by
  unfold St.put
  rw [if_neg (by rw [hh]; decide), if_neg (by omega)]
  congr 1
  unfold St.laid
  rw [List.map_append]
  have e1 : s.fr.map (fun e : FrE => if e.1 == K then (e.1, xs, e.2.2 || q) else e) = s.fr := by
    rw [List.map_congr_left (g := id) (fun e he => by
      have : (e.1 == K) = false := by simpa using St.has_not.1 hh e he
      simp [this]), List.map_id]
  rw [e1]
  simp
set_option maxRecDepth 100000 in
set_option maxHeartbeats 1000000 in
theorem put_has (h : Ft w own gt s) {K : Int} (hK : i64 K) (hh : s.has K = true) {v : Value} {xs : List Nat} {q : Bool} (hv : Bs w v xs) (hl : xs.length ≤ 1000000) :
    Calls Try.prog 16 #[ptr gt, .int .i64 K, v, .bool q] w fun e w' => e = .returned (.int .i64 (s.putc K)) ∧ FtTo w own gt (s.put K xs q) w' := by
  rw [St.put_has hh]
  rw [show s.putc K = 0 by unfold St.putc; rw [hh]; rfl]
  obtain ⟨gr, gf, gp, gh, gm, fb, PL, h⟩ := h
  have HF := Hid.mk' (find_has h hK hh)
  have HC := Hid.mk' (clone_any hv (by omega))
  obtain ⟨e0, he0, rfl⟩ := St.has_iff.1 hh
  have HT : Hid (∀ W1 v1, Grow w W1 → Ow W1 w.heap.size v1 xs → FtTo w own gt { s with fr := St.laid s.fr e0.1 xs q } ((W1.setCell ⟨fb e0.1, 0, none⟩ v1).setCell ⟨fb e0.1, 1, none⟩ (.bool (e0.2.2 || q)))) := fun W1 v1 k1 k2 => h.putTail he0 q k1 k2 hl
  have HB : Hid (∀ W1, Grow w W1 → ∃ u, Blk W1 (fb e0.1) 89 (fcl u e0.2.2 (cnt PL e0.1))) := fun W1 k => by
    obtain ⟨u, h1, -⟩ := (h.grow k).each e0 he0
    exact ⟨u, h1⟩
  obtain ⟨ao, n, cap, rfl⟩ := hv.sl
  obtain ⟨S2, hS2⟩ : ∃ S2 : St, S2 = { s with fr := St.laid s.fr e0.1 xs q } := ⟨_, rfl⟩
  rw [← hS2] at HT ⊢
  generalize e0.1 = K at *
  generalize e0.2.2 = m at *
  generalize fb K = g at *
  generalize cnt PL K = c at *
  clear h hK hh hv hl he0 hS2
  go_enter Try.func16, Try.ntmps16
  go_wp2_with fail
  refine Calls.mono HF.out ?_
  rintro e w' ⟨rfl, hw⟩
  have h2 := hw.symm
  subst h2
  clear hw
  go_wp2_with fail
  refine Calls.mono HC.out ?_
  rintro e w1 ⟨v1, rfl, how, hbe⟩
  have hg1 : Grow w w1 := But.of hbe
  obtain ⟨u, hb⟩ := HB.out w1 hg1
  have HFIN := Hid.mk' (HT.out w1 v1 hg1 how)
  have c0 : w1.cell? ⟨g, 0, none⟩ = some u := hb.cell 0
  have f0 : w1.frozen? ⟨g, 0, none⟩ = false := hb.free 0
  have hb2 := hb.set 0 v1
  have c1 : (w1.setCell ⟨g, 0, none⟩ v1).cell? ⟨g, 1, none⟩ = some (.bool m) := hb2.cell 1
  have f1 : (w1.setCell ⟨g, 0, none⟩ v1).frozen? ⟨g, 1, none⟩ = false := hb2.free 1
  obtain ⟨ao3, n3, cap3, rfl⟩ := how.bs.sl
  clear how hbe hg1 hb hb2
  cases hm : m
  case true =>
    rw [hm] at c1 HFIN
    clear hm
    go_wp2
    go_ret
    exact ⟨rfl, HFIN.out⟩
  case false =>
    rw [hm] at c1 HFIN
    rw [Bool.false_or] at HFIN
    clear hm
    go_wp2
    go_ret
    exact ⟨rfl, HFIN.out⟩
end
end Go.Proofs.Ytmlklmhochihbaa
