/- frames: Put, of a key that is in no frame. -/
import Derived.Test.YtmlklmhochihbaaFrPut
namespace Go.Proofs.Ytmlklmhochihbaa
open Go.RowKit Go.Maps

section
variable {w w' : World} {own own' : Owner} {gt gr gf gp gh gm : Nat} {fb : Int → Nat} {PL : List (Int × Int)} {s s' : St} {R : Nat → Prop}
theorem Fm.lenRun (h : Fm w own gt gr gf gp gh gm fb PL s) (ty : TypeId) : (Builtin.len_ #[82] ty #[.map (some gf)]).run Try.prog w = .ok (.int .i64 (s.fr.length : Int)) w := by
  have := h.frm.len (t := 82) (et := 86) Try.underlying82 h.kd ty
  rw [show s.keys.length = s.fr.length by unfold St.keys; rw [List.length_map]] at this
  exact this
/-- A frame that was empty. -/
theorem Fm.add {W : World} {g : Nat} (h : Fm w own gt gr gf gp gh gm fb PL s) {K : Int} (hK : i64 K) (hh : s.has K = false) (hl : s.fr.length < s.most) (hg : g = w.heap.size) (k : But (· = gf) w W)
    (hb : Blk W g 89 (fcl (.slice none 0 0) false 0)) (hm : MapOf 3 W gf iv (fun j => ptr (if j = K then g else fb j)) (s.keys ++ [K])) :
    Fm W (tagAt own g (tFr K)) gt gr gf gp gh gm (fun j => if j = K then g else fb j) PL { s with fr := s.fr ++ [(K, [], false)] } := by
  have hgn : own g = .none := h.top g (by omega)
  have ne : ∀ b t, own b = t → t ≠ .map → ¬ (b = gf) := fun b t e h1 e2 => by rw [e2, h.ogf] at e; exact h1 e.symm
  have hE : Ext own (tagAt own g (tFr K)) := Ext.tagAt (.inl hgn)
  have tg : ∀ {b : Nat} {t : Tag}, own b = t → t ≠ .none → tagAt own g (tFr K) b = t := fun {b t} h1 h2 => (hE b (by rw [h1]; exact h2)).trans h1
  have hne : ∀ e ∈ s.fr, e.1 ≠ K := St.has_not.1 hh
  have hok := h.ok.put (k := K) (b := []) (wr := false) hK (by simp)
  unfold St.put at hok
  rw [if_neg (by rw [hh]; decide), if_neg (by omega)] at hok
  have hc0 : cnt PL K = 0 := by
    have h1 := h.pinned K
    rw [St.pinned_none h.ok hh] at h1
    have := of_decide_eq_false h1
    omega
  refine ⟨h.blk.but k (ne _ _ h.ot (by decide)), h.res.but k (ne _ _ h.ort (by decide)), ?_, h.pin.but k (ne _ _ h.ogp (by decide)), h.pnd, h.pmem, fun e he => ?_,
    h.ht.but k (ne _ _ h.ogh (by decide)) (ne _ _ h.ogm (by decide)), tg h.ot (by decide), tg h.ort (by decide), tg h.ogf (by decide), tg h.ogp (by decide), tg h.ogh (by decide), tg h.ogm (by decide), fun e he => ?_, hok, h.pl, ?_⟩
  · show MapOf _ _ _ _ _ ((s.fr ++ [(K, [], false)]).map (fun e : FrE => e.1))
    rw [List.map_append]
    exact hm
  · rcases List.mem_append.1 he with he | he
    · obtain ⟨v, h1, h2⟩ := h.each e he
      rw [if_neg (hne e he)]
      refine ⟨v, h1.but k (ne _ _ (h.ofb e he) (fun e => nomatch e)), ?_⟩
      have h3 := h2.but k (fun j hj => ne _ _ hj (fun e => nomatch e))
      exact ⟨h3.1, fun h0 j hj => tg (h3.2 h0 j hj) (fun e => nomatch e)⟩
    · rw [show e = (K, [], false) by simpa using he, if_pos rfl, hc0]
      exact ⟨_, hb, Bs.nil _, fun h0 => absurd h0 (by simp)⟩
  · rcases List.mem_append.1 he with he | he
    · rw [if_neg (hne e he)]
      exact tg (h.ofb e he) (fun e => nomatch e)
    · rw [show e = (K, [], false) by simpa using he, if_pos rfl]
      exact tagAt_own
  · exact (h.top.grow k.size).tagAt hb.lt
theorem bld_fr (w : World) : (Instr.build 89 #[]).run Try.prog w = .ok (.agg #[.slice none 0 0, .bool false, .int .i64 0]) w := by kernel_rfl
set_option maxRecDepth 100000 in
set_option maxHeartbeats 1000000 in
theorem put_full (h : Ft w own gt s) {K : Int} (hK : i64 K) (hh : s.has K = false) (hf : s.most ≤ s.fr.length) {v : Value} {xs : List Nat} {q : Bool} :
    Calls Try.prog 16 #[ptr gt, .int .i64 K, v, .bool q] w fun e w' => e = .returned (.int .i64 (s.putc K)) ∧ FtTo w own gt (s.put K xs q) w' := by
  have hsm := fun w' (k : Grow w w') => h.same k
  obtain ⟨gr, gf, gp, gh, gm, fb, PL, h⟩ := h
  have HF := Hid.mk' (find_not h hK hh)
  have HS : Hid (∀ w', Grow w w' → FtTo w own gt (s.put K xs q) w') := fun w' k => by unfold St.put; rw [if_neg (by rw [hh]; decide), if_pos hf]; exact hsm w' k
  rw [show s.putc K = 11 by unfold St.putc; rw [hh, if_neg (by decide), if_pos hf]]
  have HLEN : Hid (∀ w', Grow w w' → ∀ ty, (Builtin.len_ #[82] ty #[.map (some gf)]).run Try.prog w' = .ok (.int .i64 (s.fr.length : Int)) w') := fun w' k ty => (h.grow k).lenRun ty
  have HBK := Hid.mk' h.blk
  have hmi : (s.most : Int) ≤ (s.fr.length : Int) := by omega
  generalize hlf : s.left = L at *
  generalize hnn : s.fr.length = n at *
  generalize hmm : s.most = m at *
  clear h hK hh hf hsm hlf hnn hmm
  go_enter Try.func16, Try.ntmps16
  go_wp2_with fail
  refine Calls.mono HF.out ?_
  rintro e w' ⟨rfl, hw⟩
  have h2 := hw.symm
  subst h2
  clear hw
  go_upto_region 5 with fail
  refine region_chain [] [0, 1, 2, 3, 4, 5, 6, 7, 8, 9] (Grow w) (Grow w) (by kernel_rfl) (by kernel_rfl) (fun _ _ h k => h.trans k) (fun _ h => h) ((But.refl _ w).drew) ?_
  intro ι hne X hX
  have d0 : ∀ x, (X x).cell? ⟨gt, 0, none⟩ = some (.int .i64 (m : Int)) := fun x => (HBK.out.but (hX x) (fun h => h)).cell 0
  have d3 : ∀ x, (X x).cell? ⟨gt, 3, none⟩ = some (.map (some gf)) := fun x => (HBK.out.but (hX x) (fun h => h)).cell 3
  iterate 4 (refine still_step rfl (fun K hK => ?_); go_simp; refine hK _ ?_; clear hK K)
  refine still_val rfl (.int .i64 (n : Int)) rfl (fun z => exec_lenM rfl rfl (HLEN.out _ (hX z) _)) ?_
  intro K hK; go_simp; refine hK _ ?_; clear hK K
  iterate 5 (refine still_step rfl (fun K hK => ?_); go_simp; refine hK _ ?_; clear hK K)
  refine still_nil ?_
  clear hX hne d0 d3
  intro w2 hw2
  have HW2 := Hid.mk' (HS.out w2 hw2)
  clear hw2
  go_wp2
  go_ret
  exact ⟨rfl, HW2.out⟩
set_option maxRecDepth 100000 in
set_option maxHeartbeats 1000000 in
theorem put_new (h : Ft w own gt s) {K : Int} (hK : i64 K) (hh : s.has K = false) (hf : s.fr.length < s.most) {v : Value} {xs : List Nat} {q : Bool} (hv : Bf w (fun j => own j = .none) v xs) (hl : xs.length ≤ 1000000) :
    Calls Try.prog 16 #[ptr gt, .int .i64 K, v, .bool q] w fun e w' => e = .returned (.int .i64 (s.putc K)) ∧ FtTo w own gt (s.put K xs q) w' := by
  rw [St.put_new hh hf]
  rw [show s.putc K = 0 by unfold St.putc; rw [hh, if_neg (by decide), if_neg (by omega)]]
  obtain ⟨gr, gf, gp, gh, gm, fb, PL, h⟩ := h
  have HF := Hid.mk' (find_not h hK hh)
  have HLEN : Hid (∀ w', Grow w w' → ∀ ty, (Builtin.len_ #[82] ty #[.map (some gf)]).run Try.prog w' = .ok (.int .i64 (s.fr.length : Int)) w') := fun w' k ty => (h.grow k).lenRun ty
  have HBK := Hid.mk' h.blk
  have hmi : ¬ ((s.most : Int) ≤ (s.fr.length : Int)) := by omega
  obtain ⟨S2, hS2⟩ : ∃ S2 : St, S2 = { s with fr := St.laid (s.fr ++ [(K, [], false)]) K xs q } := ⟨_, rfl⟩
  rw [← hS2]
  -- from a world that only grew: the frame is made, the key put, then bytes are laid
  have HA : Hid (∀ w1, Grow w w1 → ∃ W, (Instr.mapUpdate 82 (.map (some gf)) (.int .i64 K) (ptr w1.heap.size)).run Try.prog (w1.alloc (.cells #[.slice none 0 0, .bool false, .int .i64 0] 89)) = .ok () W ∧ Blk (w1.alloc (.cells #[.slice none 0 0, .bool false, .int .i64 0] 89)) gt 85 (tcl s.most s.left gr gf gp gh) ∧ Bs W v xs ∧
      ∀ W1 v1, Grow W W1 → Ow W1 W.heap.size v1 xs → (∃ u, Blk W1 w1.heap.size 89 (fcl u false 0)) ∧ FtTo w own gt S2 ((W1.setCell ⟨w1.heap.size, 0, none⟩ v1).setCell ⟨w1.heap.size, 1, none⟩ (.bool q))) := fun w1 k0 => by
    have h0 := h.grow k0
    have ka : Grow w1 (w1.alloc (.cells #[.slice none 0 0, .bool false, .int .i64 0] 89)) := (But.refl _ w1).alloc _
    have hbn : Blk (w1.alloc (.cells #[.slice none 0 0, .bool false, .int .i64 0] 89)) w1.heap.size 89 (fcl (.slice none 0 0) false 0) := Blk.new (L := fcl (.slice none 0 0) false 0) rfl
    generalize w1.alloc (.cells #[.slice none 0 0, .bool false, .int .i64 0] 89) = w2 at *
    have h2 := h0.grow ka
    obtain ⟨g, hg⟩ : ∃ g, g = w1.heap.size := ⟨_, rfl⟩
    rw [← hg] at hbn ⊢
    have hne : ∀ x ∈ s.keys, x ≠ K := fun x hx e => by
      have : s.has K = true := hasK_keys.2 (by rw [← e]; exact hx)
      rw [hh] at this; cases this
    have hm0 := h2.frm.congr (vv' := fun j => ptr (if j = K then g else fb j)) (fun x hx => by rw [if_neg (hne x hx)])
    obtain ⟨W, hr, hm, hb, hsz⟩ := hm0.put (t := 82) (et := 86) keyIa Try.underlying82 K (keyOfIa K hK) (fun y hy e => hne y hy (iv_inj e))
    rw [if_pos rfl] at hr
    have hgn : own g = .none := h0.top g (by omega)
    have hgf : ¬ (g = gf) := fun e => by rw [e, h.ogf] at hgn; cases hgn
    have kW : But (· = gf) w1 W := (ka.mono (fun _ _ h => h.elim)).trans hb
    have hadd := h0.add hK hh hf hg kW (hbn.but hb hgf) hm
    have hvW : Bs W v xs := by
      have hv1 := hv.but k0 (fun _ _ h => h)
      exact (hv1.but kW (fun j hj e => by rw [e, h.ogf] at hj; cases hj)).1
    refine ⟨W, hr, h2.blk, hvW, fun W1 v1 k1 k2 => ?_⟩
    have he0 : ((K, [], false) : FrE) ∈ ({ s with fr := s.fr ++ [(K, [], false)] } : St).fr := List.mem_append_right _ List.mem_cons_self
    constructor
    · obtain ⟨u, hu, -⟩ := (hadd.grow k1).each _ he0
      have e1 : (if ((K, [], false) : FrE).1 = K then g else fb ((K, [], false) : FrE).1) = g := if_pos rfl
      have hc0 : cnt PL K = 0 := by
        have h1 := h.pinned K
        rw [St.pinned_none h.ok hh] at h1
        have := of_decide_eq_false h1
        omega
      rw [e1] at hu
      simp only [hc0] at hu
      exact ⟨u, hu⟩
    · have ht := hadd.putTail he0 q k1 k2 hl
      rw [if_pos rfl, Bool.false_or] at ht
      rw [hS2]
      refine FtTo.then (own2 := tagAt own g (tFr K)) (W := W) (Ext.tagAt (.inl hgn)) ((Fresh.refl _ _).tagAt (.inl (by rw [hg]; exact k0.size))) ((k0.mono (fun _ _ h => h.elim)).trans (kW.mono (fun b _ e => ?_))) ht
      rw [e, Wr, h.ogf]; exact ⟨by decide, by decide⟩
  have HLN : Hid (xs.length ≤ 140737488355328) := by show _ ≤ _; omega
  obtain ⟨ao, nn, cap, rfl⟩ := hv.1.sl
  generalize hlf : s.left = L at *
  generalize hnn : s.fr.length = n at *
  generalize hmm : s.most = m at *
  clear h hK hh hf hlf hnn hmm hv hl hS2
  go_enter Try.func16, Try.ntmps16
  go_wp2_with fail
  refine Calls.mono HF.out ?_
  rintro e w' ⟨rfl, hw⟩
  have h2 := hw.symm
  subst h2
  clear hw
  go_upto_region 5 with fail
  refine region_chain [] [0, 1, 2, 3, 4, 5, 6, 7, 8, 9] (Grow w) (Grow w) (by kernel_rfl) (by kernel_rfl) (fun _ _ h k => h.trans k) (fun _ h => h) ((But.refl _ w).drew) ?_
  intro ι hne X hX
  have d0 : ∀ x, (X x).cell? ⟨gt, 0, none⟩ = some (.int .i64 (m : Int)) := fun x => (HBK.out.but (hX x) (fun h => h)).cell 0
  have d3 : ∀ x, (X x).cell? ⟨gt, 3, none⟩ = some (.map (some gf)) := fun x => (HBK.out.but (hX x) (fun h => h)).cell 3
  iterate 4 (refine still_step rfl (fun K hK => ?_); go_simp; refine hK _ ?_; clear hK K)
  refine still_val rfl (.int .i64 (n : Int)) rfl (fun z => exec_lenM rfl rfl (HLEN.out _ (hX z) _)) ?_
  intro K hK; go_simp; refine hK _ ?_; clear hK K
  iterate 5 (refine still_step rfl (fun K hK => ?_); go_simp; refine hK _ ?_; clear hK K)
  refine still_nil ?_
  clear hX hne d0 d3
  intro w2 hw2
  obtain ⟨W, hr, hbt, hvW, hrest⟩ := HA.out w2 hw2
  have HPUT := Hid.mk' hr
  have HREST := Hid.mk' hrest
  have HCL := Hid.mk' (clone_any hvW HLN.out)
  have e3 : (w2.alloc (.cells #[.slice none 0 0, .bool false, .int .i64 0] 89)).cell? ⟨gt, 3, none⟩ = some (.map (some gf)) := hbt.cell 3
  clear hw2 hr hrest hvW hbt HA
  go_wp2_with (first
    | (refine wpList_skipH rfl (exec_mapUpdate rfl rfl rfl rfl HPUT.out) ?_)
    | fail)
  refine Calls.mono HCL.out ?_
  rintro e w4 ⟨v4, rfl, how, hbe⟩
  have hg4 : Grow W w4 := But.of hbe
  obtain ⟨⟨u, hb⟩, hfin⟩ := HREST.out w4 v4 hg4 how
  have HFIN := Hid.mk' hfin
  have c0 : w4.cell? ⟨w2.heap.size, 0, none⟩ = some u := hb.cell 0
  have f0 : w4.frozen? ⟨w2.heap.size, 0, none⟩ = false := hb.free 0
  have hb2 := hb.set 0 v4
  have c1 : (w4.setCell ⟨w2.heap.size, 0, none⟩ v4).cell? ⟨w2.heap.size, 1, none⟩ = some (.bool false) := hb2.cell 1
  have f1 : (w4.setCell ⟨w2.heap.size, 0, none⟩ v4).frozen? ⟨w2.heap.size, 1, none⟩ = false := hb2.free 1
  obtain ⟨ao3, n3, cap3, rfl⟩ := how.bs.sl
  clear how hbe hg4 hb hb2 hfin
  go_wp2
  go_ret
  exact ⟨rfl, HFIN.out⟩
end
end Go.Proofs.Ytmlklmhochihbaa
