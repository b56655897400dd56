/- Write, where it waits. -/
import Derived.Test.YtbdmlnmicijnjabDvWrite
namespace Go.Proofs.Ytbdmlnmicijnjab
open Go.RowKit

theorem rising_len : ∀ (l : List Nat) (lo n : Nat), l.Pairwise (· < ·) → (∀ i ∈ l, lo ≤ i ∧ i < n) → l.length ≤ n - lo
  | [], _, _, _, _ => Nat.zero_le _
  | a :: l, lo, n, hp, h => by
    have hp' := List.pairwise_cons.1 hp
    have h1 := rising_len l (a + 1) n hp'.2 (fun i hi => ⟨hp'.1 i hi, (h i (List.mem_cons_of_mem _ hi)).2⟩)
    have h2 := h a List.mem_cons_self
    rw [List.length_cons]
    omega
/-- Behind the first statement: the map has one more. -/
structure WMid (w : World) (own : Owner) (bm : Nat) (s : Dev) (b : Nat) (xs : List Nat) (w1 : World) : Prop where
  k1 : But (fun k => own k = .row b ∨ k = bm) w w1
  ex : ∃ own1, Ext own own1 ∧ Fresh w own own1 ∧ Top w1 own1 ∧ WtM w1 own1 bm (s.write b xs).wr (s.write b xs).wt
theorem WMid.grow {w w1 w2 : World} {own : Owner} {bm b : Nat} {s : Dev} {xs : List Nat} (h : WMid w own bm s b xs w1) (k : Grow w1 w2) : WMid w own bm s b xs w2 := by
  obtain ⟨own1, h1, h2, h3, h4⟩ := h.ex
  exact ⟨h.k1.trans (k.mono (fun _ _ h => h.elim)), own1, h1, h2, h3.grow k.size, h4.but k (fun h => h) (fun _ _ _ h => h) (fun _ _ h => h)⟩
set_option maxRecDepth 100000 in
set_option maxHeartbeats 4000000 in
theorem write_any {w : World} {own : Owner} {gd : Nat} {s : Dev} {v : Value} {xs : List Nat} (h : Dv w own gd s) (hu : s.up = true) {b : Nat} (hb : b < s.st.length) (hv : Bf w (Is own .none) v xs) (hx : xs.length = 256) (hm : s.wr.length < 100000) (hc : s.cnt < 4611686018427387904) (ha : s.arm ≤ 9223372036854775807) :
    Calls Try.prog 10 #[.pointer (some ⟨gd, 0, none⟩), .int .i64 (b : Int), v] w fun e w' => e = .returned (.int .i64 (if s.arm = 1 then 7 else 0)) ∧ DvTo w own gd (s.write b xs).acc w' := by
  have HHA := Hid.mk' (has_any h (b : Int))
  rw [decide_eq_true (by omega : (0 : Int) ≤ (b : Int) ∧ (b : Int) < (s.st.length : Int))] at HHA
  have hok := h.ok
  obtain ⟨gs, vw, bm, vi, h⟩ := h
  have HH := Hid.mk' h
  have HACC : Hid (∀ w5, DvTo w own gd (s.write b xs) w5 → Calls Try.prog 28 #[.pointer (some ⟨gd, 0, none⟩)] w5 fun e w' => e = .returned (.bool (!(s.arm == 1))) ∧ DvTo w own gd (s.write b xs).acc w') := fun w5 h5 => by
    obtain ⟨own5, f5, d5⟩ := h5.ex
    refine (access_any d5 hu hc ha).mono ?_
    rintro e w6 ⟨rfl, h6⟩
    obtain ⟨own6, f6, d6⟩ := h6.ex
    refine ⟨rfl, h5.but.then (S := fun k => own5 k ≠ .none) h6.but (fun k hk e h0 => ?_), own6, fun k hk => ?_, d6⟩
    · by_cases hq : own5 k = own k
      · exact e (hq.trans h0)
      · have := f5 k hq; omega
    · by_cases hq : own6 k = own5 k
      · exact f5 k (by rw [← hq]; exact hk)
      · exact Nat.le_trans h5.but.size (f6 k hq)
  have c6 : w.cell? ⟨gd, 6, none⟩ = some (.bool s.up) := h.blk.cell 6
  rw [hu] at c6
  have hb65 : b < 65536 := by have := hok.nb; omega
  obtain ⟨vr, hlk, hrow⟩ := h.map.look hb65
  obtain ⟨M, hM, hM2, hM3⟩ := h.map.ex
  obtain ⟨ao, cap, rfl, -⟩ := hv.1.gen
  rw [hx] at hv ⊢
  obtain ⟨aw, cw, hvw, -⟩ := h.wri.shape
  subst hvw
  obtain ⟨m, hme⟩ : ∃ m, m = s.wr.length := ⟨_, rfl⟩
  have HME := Hid.mk' hme
  have HWF : Hid (wf256 xs) := ⟨hx, hv.1.1⟩
  have HLK := Hid.mk' hlk
  have HROW := Hid.mk' hrow
  have HM := Hid.mk' hM
  have HM2 := Hid.mk' hM2
  have HM3 := Hid.mk' hM3
  have HOK := Hid.mk' hok
  have HB := Hid.mk' hb
  have HB65 := Hid.mk' hb65
  have HMB := Hid.mk' hm
  have HV := Hid.mk' hv
  have HRT : Hid (∀ k, vr.ownBlock = some k → own k = .row b) := fun k hk => hrow.inF k hk
  have HND : Hid (∀ k, vr.ownBlock = some k → k ≠ gd ∧ k ≠ bm) := fun k hk => ⟨fun e => (by have := HRT.out k hk; rw [e, HH.out.tag] at this; cases this), fun e => (by have := HRT.out k hk; rw [e, HH.out.mat] at this; cases this)⟩
  have HWD : Hid (¬ (.slice aw m cw : Value).ownBlock = some gd) := fun e => by
    have h1 : own gd = .wri := HH.out.wri.inF gd (by rw [HME.out] at e; exact e)
    rw [HH.out.tag] at h1; cases h1
  have hblk := h.blk
  rw [← hme] at hblk
  have HBK := Hid.mk' hblk
  have HX := Hid.mk' hx
  obtain ⟨ad, rfl⟩ : ∃ ad, ao = some ad := by
    cases ao with
    | none =>
      obtain ⟨ao', cap', e, h1, -⟩ := hv.1.gen
      simp only [Value.slice.injEq] at e
      have := (h1 e.1.symm).1; omega
    | some ad => exact ⟨ad, rfl⟩
  obtain ⟨K, hK⟩ : ∃ K, K = (wb s.wr s.wt b).length := ⟨_, rfl⟩
  have HKE := Hid.mk' hK
  have HKB : Hid (K ≤ 100000) := by
    show K ≤ 100000
    have h1 : (wb s.wr s.wt b).length ≤ s.wt.length := List.length_filter_le _ _
    have h2 : s.wt.length ≤ s.wr.length := rising_len s.wt 0 _ hok.wt (fun i hi => ⟨Nat.zero_le _, hok.wl i hi⟩)
    omega
  clear h hok hu hb hlk hrow hM hM2 hM3 hme hb65 hm hc ha hv hblk hx hK
  go_enter Try.func10, Try.ntmps10
  go_wp2_with fail
  refine Calls.mono HHA.out ?_
  rintro e w ⟨rfl, rfl⟩
  go_upto_region 7 with fail
  clear c6
  refine region_chain [([0, 1, 2, 3, 4, 5, 6, 7, 8, 9, 10, 11, 12, 13, 14, 15], 16), ([], 17), ([], 18)] [] (But (fun k => vr.ownBlock = some k) w) (Grow w) (by kernel_rfl) (by kernel_rfl) (fun _ _ h k => h.trans k) (fun _ h => h.mono (fun _ _ h => h.elim)) ((But.refl _ w).drew) ?_
  intro ι hne X hX
  have c1 : ∀ x, (X x).cell? ⟨gd, 1, none⟩ = some (.slice aw m cw) := fun x => (HBK.out.but (hX x) (fun e => (HND.out gd e).1 rfl)).cell 1
  have c2 : ∀ x, (X x).cell? ⟨gd, 2, none⟩ = some (.map (some bm)) := fun x => (HBK.out.but (hX x) (fun e => (HND.out gd e).1 rfl)).cell 2
  iterate 10 (refine still_step rfl (fun K hK => ?_); go_simp; refine hK _ ?_; clear hK K)
  refine still_val rfl vr rfl (fun x => exec_lookup rfl rfl rfl (HLK.out _ _ (hX x) (fun e => (HND.out bm e).2 rfl))) ?_
  intro K hK; go_simp; refine hK _ ?_; clear hK K
  iterate 5 (refine still_step rfl (fun K hK => ?_); go_simp; refine hK _ ?_; clear hK K)
  refine still_nil ?_
  clear c1 c2 hX hne
  refine turn_run rfl rfl (fun u w' => Grow w w' ∧ ∃ g, u = .slice (some ⟨g, 0, none⟩) 1 1 ∧ Blk w' g 3 [.int .i64 (m : Int)]) (fun _ => But (fun k => vr.ownBlock = some k) w) ?_ (fun _ _ h => h.1.mono (fun _ _ h => h.elim)) (.inr (fun _ _ h => h)) ?_ ?_
  · rintro u w4 w5 ⟨h1, g, h2, h3⟩ k
    exact ⟨h1.trans k, g, h2, h3.but k (fun h => h)⟩
  · intro w4 h4
    refine turn_row1 (v := .int .i64 (m : Int)) Try.underlying54 infI (by decide) (by decide) rfl rfl rfl ⟨h4.trans ((But.refl _ w4).alloc _), _, rfl, ?_⟩
    exact Blk.new (L := [.int .i64 (m : Int)]) rfl
  rintro u ⟨wq, -, gn, rfl, -⟩ Y hY
  clear wq
  go_simp
  refine hY _ ?_
  clear hY Y
  intro ι hne X hX
  refine still_nil ?_
  clear hX hne
  refine turn_run rfl rfl (fun u w' => But (fun k => vr.ownBlock = some k) w w' ∧ w'.ownsRow 0 3 1 u (K + 1) (ints (wb s.wr s.wt b) ++ [.int .i64 (m : Int)]) ∧ (∀ k, u.ownBlock = some k → vr.ownBlock = some k ∨ w.heap.size ≤ k) ∧ (∀ k, u.ownBlock = some k → k < w'.heap.size)) (fun _ => But (fun k => vr.ownBlock = some k) w) ?_ (fun _ _ h => h.1) (.inr (fun _ _ h => h)) ?_ ?_
  · rintro u w4 w5 ⟨h1, h2, h3, h4⟩ k
    exact ⟨h1.trans (k.mono (fun _ _ h => h.elim)), ownsRow_grow h2 k, h3, fun j hj => Nat.lt_of_lt_of_le (h4 j hj) k.size⟩
  · rintro w4 ⟨h1, g', e9, h2⟩
    cases e9
    refine turn_append (v := vr) (n := K) (xs := ints (wb s.wr s.wt b)) (news := [.int .i64 (m : Int)]) Try.underlying54 infI rfl (by decide) rfl rfl (by rw [HKE.out]; exact ownsRow_grow HROW.out.own h1) rfl (by simp) (fun j u hj => h2.cells0 j u hj) (fun u hu => by rw [show u = .int .i64 (m : Int) by simpa using hu]; rfl) (by have := HKB.out; omega) (by decide) ?_
    intro v' w5 hap
    refine ⟨(h1.mono (fun _ _ h => h.elim)).trans hap.but, hap.own, fun j hj => ?_, hap.lt⟩
    rcases hap.at' with e | e
    · exact .inl (by rw [← e]; exact hj)
    · rw [e] at hj
      cases hj
      exact .inr h1.size
  rintro u ⟨wq, -, hov, -⟩ Y hY
  clear hov wq
  go_simp
  refine hY _ ?_
  clear hY Y
  intro ι hne X hX
  refine still_nil ?_
  clear hX hne
  refine turn_run rfl rfl (fun _ w' => WMid w own bm s b xs w') (fun _ _ => True) (fun _ _ _ h k => h.grow k) (fun _ _ _ => trivial) (.inl (by kernel_rfl)) ?_ ?_
  · rintro w4 ⟨h1, h2, h3, h4⟩
    have hMq := HM.out.but h1 (fun e => (HND.out bm e).2 rfl)
    obtain ⟨w5, M', hr, hM', hbt, hsz, hin, hot⟩ := hMq.put (v := u) keyI Try.underlying45 (keyOfI b HB65.out)
    refine turn_put rfl rfl rfl rfl hr ?_
    have k1 : But (fun k => own k = .row b ∨ k = bm) w w5 := (h1.mono (fun k _ e => .inl (HRT.out k e))).trans (hbt.mono (fun k _ e => .inr e))
    have hEx : Ext own (tagV own u (.row b)) := Ext.tagV (fun k hk => (h3 k hk).elim (fun e => .inr (HRT.out k e)) (fun e => .inl (HH.out.top k e)))
    have hTop : Top w5 (tagV own u (.row b)) := (HH.out.top.grow k1.size).tagV (fun k hk => by have := h4 k hk; omega)
    refine ⟨k1, tagV own u (.row b), hEx, (Fresh.refl w own).tagV (fun k hk => (h3 k hk).elim (fun e => .inr (HRT.out k e)) .inl), hTop, ?_⟩
    refine WtM.add (v := u) HOK.out.wl HB65.out HM2.out HM3.out hM' hin hot k1 HH.out.mat hEx ⟨?_, fun k hk => tagV_own hk⟩
    rw [← HME.out, ← HKE.out]
    exact ownsRow_but h2 hbt (fun j hj e => by
      rcases h3 j hj with h5 | h5
      · exact (HND.out j h5).2 e
      · have := HM.out.lt; omega)
  rintro v5 - Y hY
  go_simp
  refine hY _ ?_
  clear hY Y
  intro ι hne X hX
  refine still_nil ?_
  clear hX hne
  intro w1 hmid
  have HMID := Hid.mk' hmid
  have HB1 : Hid (Blk w1 gd 49 [.slice (some ⟨gs, 0, none⟩) s.st.length s.st.length, .slice aw m cw, .map (some bm), vi, .int .i64 (s.cnt : Int), .int .i64 (s.arm : Int), .bool s.up]) := HBK.out.but hmid.k1 (fun e => by
    rcases e with e | e
    · rw [HH.out.tag] at e; cases e
    · have := HH.out.mat; rw [← e, HH.out.tag] at this; cases this)
  have HV1 : Hid (Bs w1 (.slice (some ad) 256 cap) xs) := (HV.out.but hmid.k1 (fun j hj e => by
    have hj : own j = .none := hj
    rcases e with e | e
    · rw [e] at hj; cases hj
    · rw [e, HH.out.mat] at hj; cases hj)).1
  have HWR1 : Hid (w1.ownsRow 0 58 257 (.slice aw m cw) m (s.wr.flatMap wcell)) := by
    have h1 := HH.out.wri.own
    rw [← HME.out] at h1
    exact ownsRow_but h1 hmid.k1 (fun j hj e => by
      have h2 : own j = .wri := HH.out.wri.inF j (by rw [← HME.out]; exact hj)
      rcases e with e | e
      · rw [h2] at e; cases e
      · rw [e, HH.out.mat] at h2; cases h2)
  obtain ⟨N, hN⟩ : ∃ N, N = (u8s xs).toArray := ⟨_, rfl⟩
  have HNE := Hid.mk' hN
  have HBB := Hid.mk' (build_write (b : Int) N (by rw [hN]; simp [u8s, HX.out]))
  obtain ⟨B, hB⟩ : ∃ B, B = (wcell (b, xs)).toArray := ⟨_, rfl⟩
  have HBE := Hid.mk' hB
  rw [show (.int .i64 (b : Int) :: N.toList : List Value) = wcell (b, xs) by rw [hN]; rfl, ← hB] at HBB
  have HPL : Hid ((wcell (b, xs)).length = 257) := wcell_len HWF.out
  have HVE : Hid (¬ (.slice aw m cw : Value).ownBlock = some gd) := HWD.out
  have HVN : Hid (∀ k, (.slice aw m cw : Value).ownBlock = some k → own k = .wri) := fun k hk => HH.out.wri.inF k (by rw [← HME.out]; exact hk)
  have HVS : Hid (∀ (R : Nat → Prop) w', But R w1 w' → (∀ k, R k → own k = .wri) → ∀ c u, (u8s xs)[c]? = some u → w'.cell? (ad.add c) = some u) := fun R w' k hR c u hc => by
    have h1 : Bf w1 (Is own .none) (.slice (some ad) 256 cap) xs := ⟨HV1.out, HV.out.2⟩
    exact (h1.but k (fun j hj e => by have hj : own j = .none := hj; rw [hR j e] at hj; cases hj)).1.cells ad rfl c u hc
  clear hmid hN hB HM HM2 HM3 HLK HROW HRT HND HKE HKB K HV
  go_upto_region 8 with fail
  refine region_chain [([0, 1, 2, 3, 4, 5, 6, 7, 8, 9], 10), ([], 11), ([12, 13], 14)] [] (But (fun k => (.slice aw m cw : Value).ownBlock = some k) w1) (Grow w1) (by kernel_rfl) (by kernel_rfl) (fun _ _ h k => h.trans k) (fun _ h => h.mono (fun _ _ h => h.elim)) ((But.refl _ w1).drew) ?_
  intro ι hne X hX
  have c1 : ∀ x, (X x).cell? ⟨gd, 1, none⟩ = some (.slice aw m cw) := fun x => (HB1.out.but (hX x) HVE.out).cell 1
  iterate 7 (refine still_step rfl (fun K hK => ?_); go_simp; refine hK _ ?_; clear hK K)
  refine still_val rfl (.pointer (some ad)) rfl (fun x => exec_arrayAt Try.underlying51 rfl rfl (Nat.le_refl _)) ?_
  intro K hK; go_simp; refine hK _ ?_; clear hK K
  refine still_val rfl (.agg N) rfl (fun x => by rw [HNE.out]; exact run_load_arr Try.underlying51 i256 (HVS.out _ _ (hX x) HVN.out) HX.out rfl rfl) ?_
  intro K hK; go_simp; refine hK _ ?_; clear hK K
  refine still_val rfl (.agg B) rfl (fun x => exec_build _ [_, _] rfl [(0, .int .i64 (b : Int)), (1, .agg N)] rfl _ (HBB.out _)) ?_
  intro K hK; go_simp; refine hK _ ?_; clear hK K
  refine still_nil ?_
  clear c1 hX hne
  refine turn_run rfl rfl (fun u w' => Grow w1 w' ∧ ∃ g, u = .slice (some ⟨g, 0, none⟩) 1 1 ∧ Blk w' g 58 (wcell (b, xs))) (fun _ => But (fun k => (.slice aw m cw : Value).ownBlock = some k) w1) ?_ (fun _ _ h => h.1.mono (fun _ _ h => h.elim)) (.inr (fun _ _ h => h)) ?_ ?_
  · rintro u w4 w5 ⟨h1, g, h2, h3⟩ k
    exact ⟨h1.trans k, g, h2, h3.but k (fun h => h)⟩
  · intro w4 h4
    refine turn_row1 (v := .agg B) Try.underlying46 infW (by decide) (by decide) rfl rfl (by rw [HBE.out]; show (wcell (b, xs)).toArray.size = 257; simpa using HPL.out) ⟨h4.trans ((But.refl _ w4).alloc _), _, rfl, ?_⟩
    rw [HBE.out]
    exact Blk.new rfl
  rintro u ⟨wq, -, gn, rfl, -⟩ Y hY
  clear wq
  go_simp
  refine hY _ ?_
  clear hY Y
  intro ι hne X hX
  refine still_nil ?_
  clear hX hne
  refine turn_run rfl rfl (fun u w' => But (fun k => (.slice aw m cw : Value).ownBlock = some k) w1 w' ∧ w'.ownsRow 0 58 257 u (m + 1) (s.wr.flatMap wcell ++ wcell (b, xs)) ∧ (∀ k, u.ownBlock = some k → (.slice aw m cw : Value).ownBlock = some k ∨ w1.heap.size ≤ k) ∧ (∀ k, u.ownBlock = some k → k < w'.heap.size)) (fun _ => But (fun k => (.slice aw m cw : Value).ownBlock = some k) w1) ?_ (fun _ _ h => h.1) (.inr (fun _ _ h => h)) ?_ ?_
  · rintro u w4 w5 ⟨h1, h2, h3, h4⟩ k
    exact ⟨h1.trans (k.mono (fun _ _ h => h.elim)), ownsRow_grow h2 k, h3, fun j hj => Nat.lt_of_lt_of_le (h4 j hj) k.size⟩
  · rintro w4 ⟨h1, g', e9, h2⟩
    cases e9
    refine turn_append (v := .slice aw m cw) (news := wcell (b, xs)) Try.underlying46 infW (by kernel_rfl) (by decide) rfl rfl (ownsRow_grow HWR1.out h1) rfl (by rw [HPL.out]) (fun j u hj => h2.cells0 j u hj) (wcell_one _) (by have := HMB.out; have := HME.out; omega) (by decide) ?_
    intro v' w5 hap
    refine ⟨(h1.mono (fun _ _ h => h.elim)).trans hap.but, hap.own, fun j hj => ?_, hap.lt⟩
    rcases hap.at' with e | e
    · exact .inl (by rw [← e]; exact hj)
    · rw [e] at hj
      cases hj
      exact .inr h1.size
  rintro v2 ⟨wq, -, hov, -⟩ Y hY
  have HV2 : Hid (v2.oneCell' = true) := ownsRow_one hov
  clear hov wq
  go_simp
  refine hY _ ?_
  clear hY Y
  intro ι hne X hX
  iterate 2 (refine still_step rfl (fun K hK => ?_); go_simp; refine hK _ ?_; clear hK K)
  refine still_nil ?_
  clear hX hne
  refine turn_run rfl rfl (fun _ w' => DvTo w own gd (s.write b xs) w') (fun _ _ => True) (fun _ _ _ h k => h.grow k) (fun _ _ _ => trivial) (.inl (by kernel_rfl)) ?_ ?_
  · rintro w4 ⟨h1, h2, h3, h4⟩
    have hbk := HB1.out.but h1 HVE.out
    have hne2 : ¬ v2.ownBlock = some gd := fun e => by
      rcases h3 gd e with h | h
      · exact HVE.out h
      · have := HB1.out.lt; omega
    refine turn_store (by kernel_rfl) rfl rfl rfl HV2.out hbk (by simp) ?_
    obtain ⟨own1, q1, q2, q3, q4⟩ := HMID.out.ex
    refine HH.out.wrote3 HB.out HWF.out HMID.out.k1 q1 q2 q3 q4 (v2 := v2) ?_ ?_ ?_ ?_ (hbk.set 1 v2)
    · rw [← HME.out]
      exact (h1.mono (fun _ _ h => .inl h)).trans ((But.set1 _ _ _ _).mono (fun _ _ h => .inr h))
    · rw [← HME.out]
      exact ownsRow_but h2 (But.set1 _ _ _ _) (fun j hj e => hne2 (by rw [← e]; exact hj))
    · rw [← HME.out]; exact h3
    · intro j hj; have := h4 j hj; simpa using this
  rintro v5 - Y hY
  go_simp
  refine hY _ ?_
  clear hY Y
  intro ι hne X hX
  refine still_nil ?_
  clear hX hne
  intro w5 h5
  have HAC := Hid.mk' (HACC.out w5 h5)
  clear h5 HACC
  go_wp2_with fail
  refine Calls.mono HAC.out ?_
  rintro e w6 ⟨rfl, h6⟩
  have H6 := Hid.mk' h6
  clear h6 HAC
  by_cases harm : s.arm = 1
  · have e1 : (s.arm == 1) = true := by simp [harm]
    go_wp2
    go_ret
    exact ⟨rfl, H6.out⟩
  · have e1 : (s.arm == 1) = false := by simpa using harm
    go_wp2
    go_ret
    exact ⟨rfl, H6.out⟩
end Go.Proofs.Ytbdmlnmicijnjab
