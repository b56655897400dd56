/- latch: hold, queue, Waits. -/
import Derived.Test.YtgldkckhliklhaaLtLeaf
import Derived.Test.YtgldkckhliklhaaPast
namespace Go.Proofs.Ytgldkckhliklhaa
open Go.RowKit Go.Maps

section
variable {w w' : World} {own own' : Owner} {gt gl gh gw : Nat} {lb hb : Int → Nat} {KL TL : List Int} {c : Lc} {s : Ls} {R : Nat → Prop} {T : Tag}
theorem filter_more {l : List Wt} {x : Wt} (j : Int) (hj : j ≠ x.1) : (l ++ [x]).filter (fun y => y.1 == j) = l.filter (fun y => y.1 == j) := by
  rw [List.filter_append]
  have : (x.1 == j) = false := by simpa using fun e => hj e.symm
  simp [this]
theorem filter_self (l : List Wt) (x : Wt) : (l ++ [x]).filter (fun y => y.1 == x.1) = l.filter (fun y => y.1 == x.1) ++ [x] := by
  rw [List.filter_append]
  simp
/-- A key more in the map of a task. -/
theorem Lm.putM (h : Lm w own gt gl gh gw lb hb KL TL c) {x : Wt} (ht : x.1 ∈ TL) (h2 : i64 x.2.1) (hno : ∀ y ∈ c.hm, y.1 = x.1 → y.2.1 ≠ x.2.1) :
    ∃ w', (Instr.mapUpdate 53 (.map (some (hb x.1))) (.int .i64 x.2.1) (.int .i64 (mode x))).run Try.prog w = .ok () w' ∧ Lm w' own gt gl gh gw lb hb KL TL { c with hm := c.hm ++ [x] } ∧ But (Wo own) w w' := by
  obtain ⟨w', h3, h4, h5, -⟩ := (h.mps x.1 ht).put (t := 53) (et := 3) keyIa Try.underlying53 x (keyOfIa _ h2) (fun y hy e => by
    obtain ⟨h6, h7⟩ := List.mem_filter.1 hy
    exact hno y h6 (by simpa using h7) (iv_inj e))
  refine ⟨w', h3, h.setH ht h5 (by rw [filter_self]; exact h4) (fun j hj => filter_more j hj) (fun y hy => ?_), h5.mono (fun b _ e => by rw [e]; unfold Wo; rw [h.ohb _ ht]; exact fun e => nomatch e)⟩
  rcases List.mem_append.1 hy with h6 | h6
  · exact h.nom y h6
  · rw [show y = x by simpa using h6]; exact ht
def HoldTo (w : World) (own : Owner) (gt gl gh gw : Nat) (lb : Int → Nat) (KL : List Int) (c : Lc) (w' : World) : Prop := ∃ own' hb' TL', Lm w' own' gt gl gh gw lb hb' KL TL' c ∧ Sub w own own' ∧ But (Wo own) w w'
set_option maxRecDepth 100000 in
set_option maxHeartbeats 1000000 in
theorem lhold_any (h : Lm w own gt gl gh gw lb hb KL TL c) {x : Wt} (h1 : i64 x.1) (h2 : i64 x.2.1) (hno : ∀ y ∈ c.hm, y.1 = x.1 → y.2.1 ≠ x.2.1) : Calls Try.prog 31 #[ptr gt, .int .i64 x.1, .int .i64 x.2.1, .int .i64 (mode x)] w fun e w' => e = .returned (.tuple #[]) ∧ HoldTo w own gt gl gh gw lb KL { c with hm := c.hm ++ [x] } w' := by
  have c1 : w.cell? ⟨gt, 1, none⟩ = some (.map (some gh)) := h.blk.cell 1
  by_cases ht : x.1 ∈ TL
  · have HL := Hid.mk' ((h.lookH h1).1 ht)
    obtain ⟨w1, hr, hm, hb1⟩ := h.putM ht h2 hno
    have HR := Hid.mk' hr
    have HFIN : Hid (HoldTo w own gt gl gh gw lb KL { c with hm := c.hm ++ [x] } w1) := ⟨own, hb, TL, hm, Sub.refl _ _, hb1⟩
    generalize mode x = md at *
    generalize x.1 = tk at *
    generalize x.2.1 = ky at *
    clear h h1 h2 hno ht hr hm hb1
    have hq := mapnil_f (hb tk) w
    go_enter Try.func31, Try.ntmps31
    go_wp2_with (first
      | (refine wpList_runH rfl (exec_lookup rfl rfl rfl HL.out) ?_)
      | (refine wpList_skipH rfl (exec_mapUpdate rfl rfl rfl rfl HR.out) ?_)
      | fail)
    go_end0
    exact ⟨rfl, HFIN.out⟩
  · have HL := Hid.mk' ((h.lookH h1).2 ht)
    obtain ⟨g, hg⟩ : ∃ g, g = w.heap.size := ⟨_, rfl⟩
    have k1 : Grow w (w.alloc (.map #[] 0)) := (But.refl _ _).alloc _
    have m1 : MapOf 3 (w.alloc (.map #[] 0)) g (fun x : Wt => iv x.2.1) (fun x => iv (mode x)) [] := MapOf.new _ hg.symm _ _
    have hh1 : MapOf 3 (w.alloc (.map #[] 0)) gh iv (fun j => .map (some (if j = x.1 then g else hb j))) TL := (h.hel.grow k1).congr (fun j hj => by rw [if_neg (fun e => ht (by rw [← e]; exact hj))])
    obtain ⟨w2, hr2, hh2, hb2, hs2⟩ := hh1.put (t := 49) (et := 53) keyIa Try.underlying49 x.1 (keyOfIa _ h1) (fun y hy e => ht (by rw [← iv_inj e]; exact hy))
    simp only [if_true] at hr2
    have hgh : ¬ (g = gh) := by have := h.hel.lt; omega
    have kb : But (· = gh) w w2 := (k1.mono (fun _ _ h => h.elim)).trans hb2
    have hm2 := h.addH ht (Nat.le_of_eq hg.symm) (by rw [hs2]; exact m1.lt) kb hh2 (m1.but hb2 hgh)
    have htm : x.1 ∈ TL ++ [x.1] := List.mem_append_right _ List.mem_cons_self
    have hl2 := (hm2.lookH h1).1 htm
    simp only [if_true] at hl2
    obtain ⟨w3, hr3, hm3, hb3⟩ := hm2.putM htm h2 hno
    simp only [if_true] at hr3
    have c2 : w2.cell? ⟨gt, 1, none⟩ = some (.map (some gh)) := hm2.blk.cell 1
    have c1' : (w.alloc (.map #[] 0)).cell? ⟨gt, 1, none⟩ = some (.map (some gh)) := (h.blk.but k1 (fun h => h)).cell 1
    have HR2 := Hid.mk' hr2
    have HR3 := Hid.mk' hr3
    have HL2 := Hid.mk' hl2
    have HG := Hid.mk' hg
    have HFIN : Hid (HoldTo w own gt gl gh gw lb KL { c with hm := c.hm ++ [x] } w3) := by
      refine ⟨_, _, _, hm3, Sub.at (.inl (Nat.le_of_eq hg.symm)), ?_⟩
      refine (kb.mono (fun b _ e => by rw [e]; unfold Wo; rw [h.oh]; decide)).then hb3 (fun b hb' e => ?_)
      unfold Wo tagAt at e
      rw [if_neg (by omega)] at e
      exact e
    generalize mode x = md at *
    generalize x.1 = tk at *
    generalize x.2.1 = ky at *
    clear h h1 h2 hno ht hr2 hr3 hl2 hm2 hm3 hb2 hb3 hh1 hh2 k1 kb m1 hs2 htm hg hgh
    rw [HG.out] at HR2 HL2 HR3
    have hq := mapnil_t w
    go_enter Try.func31, Try.ntmps31
    go_wp2_with (first
      | (refine wpList_runH rfl (exec_lookup rfl rfl rfl HL.out) ?_)
      | (refine wpList_runH rfl (exec_mkMap rfl (mkM _ _)) ?_)
      | (refine wpList_skipH rfl (exec_mapUpdate rfl rfl rfl rfl HR2.out) ?_)
      | (refine wpList_runH rfl (exec_lookup rfl rfl rfl HL2.out) ?_)
      | (refine wpList_skipH rfl (exec_mapUpdate rfl rfl rfl rfl HR3.out) ?_)
      | fail)
    go_end0
    exact ⟨rfl, HFIN.out⟩
/-- Who waits, looked up. -/
theorem Lm.lookW (h : Lm w own gt gl gh gw lb hb KL TL c) {t : Int} (ht : i64 t) (cm : Bool) : (∀ x ∈ c.qw, x.1 = t → (Instr.lookup 50 (.map (some gw)) (.int .i64 t) cm).run Try.prog w = .ok (if cm then .tuple #[wtv x, .bool true] else wtv x) w) ∧ ((∀ x ∈ c.qw, x.1 ≠ t) → (Instr.lookup 50 (.map (some gw)) (.int .i64 t) cm).run Try.prog w = .ok (if cm then .tuple #[.agg #[.int .i64 0, .bool false], .bool false] else .agg #[.int .i64 0, .bool false]) w) := by
  have hl := h.wai.look (t := 50) (et := 60) keyIa Try.underlying50 zWt (keyOfIa t ht) cm
  exact ⟨fun x hx e => hl.1 x hx (by rw [e]), fun hn => hl.2 (fun x hx e => hn x hx (iv_inj e))⟩
def QueTo (w : World) (own : Owner) (gt gl gh gw : Nat) (hb : Int → Nat) (TL : List Int) (k : Int) (c : Lc) (w' : World) : Prop := ∃ own' lb' KL', Lm w' own' gt gl gh gw lb' hb KL' TL c ∧ k ∈ KL' ∧ Sub w own own' ∧ But (Wo own) w w'
theorem qkl_more (q : List Wt) (x : Wt) : qkl (q ++ [x]) x.2.1 = qkl q x.2.1 ++ [x.1] := by unfold qkl; rw [List.filter_append]; simp
theorem qkl_other (q : List Wt) (x : Wt) {j : Int} (hj : j ≠ x.2.1) : qkl (q ++ [x]) j = qkl q j := by
  unfold qkl
  rw [List.filter_append]
  have : (x.2.1 == j) = false := by simpa using fun e => hj e.symm
  simp [this]
theorem iSlN : (Try.prog.info? 33).map (·.size) = some 1 := by kernel_rfl
theorem bldLt (w : World) : (Instr.build 67 #[]).run Try.prog w = .ok (.agg #[.int .i64 0, .bool false, .slice none 0 0]) w := by kernel_rfl
/-- What is left of queue, once its latch is there. -/
theorem Lm.queued (h : Lm w own gt gl gh gw lb hb KL TL c) {x : Wt} (hk : x.2.1 ∈ KL) (hq : c.qq.length < 10000) {w2 : World} {v' : Value} (k : But (Is own (tQ x.2.1)) w w2) (hqu : Qu w2 (fun b => Is own (tQ x.2.1) b ∨ (w.heap.size ≤ b ∧ b < w2.heap.size)) v' (qkl c.qq x.2.1 ++ [x.1])) :
    ∃ own', Lm (w2.setCell ⟨lb x.2.1, 2, none⟩ v') own' gt gl gh gw lb hb KL TL { c with qq := c.qq ++ [x] } ∧ Sub w own own' ∧ But (Wo own) w (w2.setCell ⟨lb x.2.1, 2, none⟩ v') := by
  have hL := h.olb _ hk
  have kb : But (fun b => b = lb x.2.1 ∨ own b = tQ x.2.1) w (w2.setCell ⟨lb x.2.1, 2, none⟩ v') := (k.mono (fun b _ e => .inr e)).trans ((But.set1 w2 _ 2 v').mono (fun b _ e => .inl e))
  have hlb : ¬ Is own (tQ x.2.1) (lb x.2.1) := fun e => tLQ _ _ (hL.symm.trans e)
  have hbk : ∀ v, Blk w (lb x.2.1) 67 [.int .i64 (cntS c.hc x.2.1 : Int), .bool (anyA c.hc x.2.1), v] → Blk (w2.setCell ⟨lb x.2.1, 2, none⟩ v') (lb x.2.1) 67 [.int .i64 (cntS c.hc x.2.1 : Int), .bool (anyA c.hc x.2.1), v'] := fun v hv => (hv.but k hlb).set 2 v'
  have hlt : lb x.2.1 < w.heap.size := by obtain ⟨v, hv, -⟩ := h.each _ hk; exact hv.lt
  have kw : But (Wo own) w (w2.setCell ⟨lb x.2.1, 2, none⟩ v') := kb.mono (fun b _ e => by
    rcases e with e | e
    · rw [e]; unfold Wo; rw [hL]; exact fun e => nomatch e
    · unfold Wo; rw [e]; exact fun e => nomatch e)
  have hne2 : ∀ j, (Is own (tQ x.2.1) j ∨ (w.heap.size ≤ j ∧ j < w2.heap.size)) → ¬ (j = lb x.2.1) := fun j hj e => by
    rcases hj with hj | hj
    · exact hlb (by rw [← e]; exact hj)
    · omega
  -- the row's block gets the queue's tag
  obtain ⟨own', hx, hsub, htop, hin⟩ : ∃ own', Ext own own' ∧ Sub w own own' ∧ Top (w2.setCell ⟨lb x.2.1, 2, none⟩ v') own' ∧ Qu (w2.setCell ⟨lb x.2.1, 2, none⟩ v') (Is own' (tQ x.2.1)) v' (qkl c.qq x.2.1 ++ [x.1]) := by
    obtain ⟨⟨-, e⟩ | ⟨g, off, cap, L, e, hg, hb', r⟩⟩ := hqu
    · simp at e
    · refine ⟨tagAt own g (tQ x.2.1), Ext.tagAt ?_, Sub.at ?_, ?_, ⟨.inr ⟨g, off, cap, L, e, tagAt_own, hb'.but (But.set1 w2 _ 2 v') (hne2 g hg), r⟩⟩⟩
      · rcases hg with hg | hg
        · exact .inr hg
        · exact .inl (h.top g hg.1)
      · rcases hg with hg | hg
        · exact .inr (.inl (by rw [show own g = tQ x.2.1 from hg]; exact fun e => nomatch e))
        · exact .inl hg.1
      · exact ((h.top.grow k.size).tagAt hb'.lt).grow (But.set1 w2 (lb x.2.1) 2 v').size
  refine ⟨own', h.setQ hk hx htop kb (fun j hj => qkl_other _ _ hj) hbk (by rw [qkl_more]; exact hin) (fun y hy => ?_) (by rw [List.length_append, List.length_singleton]; omega), hsub, kw⟩
  rcases List.mem_append.1 hy with h3 | h3
  · exact h.nok y (.inr h3)
  · rw [show y = x by simpa using h3]; exact hk
end
end Go.Proofs.Ytgldkckhliklhaa
