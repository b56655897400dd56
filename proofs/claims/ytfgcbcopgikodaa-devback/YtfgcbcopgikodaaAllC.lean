/- DvSnap, DvWritten, RdMem, RdNow, RdWrite, RdStore, RdFlush, RdBack, RdLay, RdPoke, RdSnap, RdSame, RdNew, RdOn. -/
import Derived.Test.YtfgcbcopgikodaaAllB
/- Snap: how all blocks read is kept. -/
namespace Go.Proofs.Ytfgcbcopgikodaa
open Go.RowKit

def Dev.all (s : Dev) : List (List Nat) := (List.range s.st.length).map s.now
def Dev.snapped (s : Dev) : Dev := { s with im := s.im ++ [s.all] }
theorem infD : (Try.prog.info? 74).map (fun i => (i.zero, i.size, i.bytes)) = some (some (.slice none 0 0), 1, 24) := by kernel_rfl
theorem lit0 (w : World) : (Instr.buildSlice 74 0 #[]).run Try.prog w = .ok (.slice (some ⟨w.heap.size, 0, none⟩) 0 0) (w.alloc (.cells #[] 81)) := by
  obtain ⟨i, hi, hz, hs, hby⟩ := info_parts infC
  simp [Instr.buildSlice, run_underlying Try.underlying74, sizeOf, typeInfo, hi, newRow, Instr.fill]
  rw [show Array.range 0 = (#[] : Array Nat) from rfl]
  simp
theorem nil_eqlC (w : World) (ao : Option Addr) (n cap : Nat) : Sem.run Try.prog (binOp .eql 74 (.slice ao n cap) (.slice none 0 0)) w = .ok (.bool ao.isNone) w := by
  have h := run_equal_slice_nil (P := Try.prog) w 74 81 ao n cap Try.underlying74
  simp [binOp, h]
theorem exec_lit0 {w w' : World} {o : Oper} {ρ : Operand → Value} {t : TypeId} {r : Value} (ho : o.op = .buildSlice t 0 #[]) (h : (Instr.buildSlice t 0 #[]).run Try.prog w = .ok r w') : (execOp ρ o).run Try.prog w = .ok (.value r) w' := by
  unfold execOp
  simp only [ho, List.map_toArray, List.map_nil, Sem.run_bind, h, Result.andThen_ok, Sem.run_pure]
/-- A row of blocks, new since w. -/
structure CloneIs (w : World) (st : List (List Nat)) (e : Ending) (w' : World) : Prop where
  ex : ∃ g cap R, e = .returned (.slice (some ⟨g, 0, none⟩) st.length cap) ∧ w.heap.size ≤ g ∧ Blk w' g 81 (st.flatMap u8s ++ R) ∧ st.length ≤ cap ∧ cap ≤ maxLen ∧ R.length = cap * 256 - st.length * 256
  grow : Grow w w'
set_option maxRecDepth 100000 in
set_option maxHeartbeats 2000000 in
theorem clones_any {w : World} {gs : Nat} {st : List (List Nat)} (hb : Blk w gs 81 (st.flatMap u8s)) (hw : ∀ c ∈ st, wf256 c) (h1 : 1 ≤ st.length) (h2 : st.length ≤ 65536) :
    Calls Try.prog 53 #[.slice (some ⟨gs, 0, none⟩) st.length st.length] w (CloneIs w st) := by
  obtain ⟨g, hg⟩ : ∃ g, g = w.heap.size := ⟨_, rfl⟩
  obtain ⟨W0, hW0⟩ : ∃ W0, W0 = w.alloc (.cells #[] 81) := ⟨_, rfl⟩
  have hG0 : Grow w W0 := by rw [hW0]; exact (But.refl _ w).alloc _
  have HL0 := Hid.mk' (lit0 w)
  rw [← hg, ← hW0] at HL0
  have HR0 : Hid (W0.ownsRow 0 81 256 (.slice (some ⟨g, 0, none⟩) 0 0) 0 []) := by
    have hb0 : Blk W0 g 81 [] := by rw [hW0]; exact Blk.new (L := []) hg.symm
    exact (RowOf.lit (Fr := fun _ => True) (n := 0) (s := 256) hb0 rfl (by decide) trivial).own
  have HFL : Hid ((st.flatMap u8s).length = st.length * 256) := by
    show _ = _
    rw [flat_len (s := 256) _ (fun c hc => by rw [u8s_len]; exact (hw c hc).1)]
  have HB := Hid.mk' (hb.but hG0 (fun h => h))
  have HG0 := Hid.mk' hG0
  have HGE := Hid.mk' hg
  obtain ⟨n, hn⟩ : ∃ n, n = st.length := ⟨_, rfl⟩
  have HN := Hid.mk' hn
  have HNB : Hid (1 ≤ n ∧ n ≤ 65536) := ⟨by omega, by omega⟩
  rw [← hn] at HFL ⊢
  have hn0 := nil_eqlC w (some ⟨gs, 0, none⟩) n n
  clear hb hw h1 h2 hg hW0 hG0 hn
  go_enter Try.func53, Try.ntmps53
  go_wp2_with (first
    | (refine wpList_run rfl (exec_lit0 rfl HL0.out) ?_)
    | (refine wpList_some rfl (exec_append Try.underlying74 infC (by kernel_rfl) (by decide) rfl rfl HR0.out rfl HFL.out (fun j u hj => HB.out.cells0 j u hj) (flat_one _) (by have := HNB.out; omega) (by decide)) ?_; intro v4 w4 hap)
    | fail)
  have hg4 : Grow w w4 := HG0.out.then hap.but (fun i hi e => by
    have e2 : some g = some i := e
    have := Option.some.inj e2
    have := HGE.out; omega)
  have ho := hap.own
  rw [Nat.zero_add, List.nil_append] at ho
  obtain ⟨hl, ⟨-, h0⟩ | ⟨g', cap, cur, rfl, -, hh, h3, h4, h5, h6⟩⟩ := ho
  · exact absurd h0 (by have := HNB.out; omega)
  go_ret
  refine ⟨⟨g', cap, cur.toList.drop (n * 256), by rw [← HN.out]; rfl, ?_, ?_, by rw [← HN.out]; exact h3, h4, by rw [← HN.out, List.length_drop, Array.length_toList, h5]⟩, hg4⟩
  · rcases hap.at' with e | e
    · have e2 : some g' = some g := e
      have := Option.some.inj e2
      have := HGE.out; omega
    · have e2 : some g' = some W0.heap.size := e
      have := Option.some.inj e2
      have := HG0.out.size; omega
  · have e : st.flatMap u8s ++ cur.toList.drop (n * 256) = cur.toList := by rw [← h6, List.take_append_drop]
    show w4.heap[g']? = some (.cells (st.flatMap u8s ++ cur.toList.drop (n * 256)).toArray _ _)
    rw [e, hh]
theorem all_wf {s : Dev} (h : s.ok) : ∀ c ∈ s.all, wf256 c := fun c hc => by
  obtain ⟨b, hb, rfl⟩ := List.mem_map.1 hc
  exact h.now (by simpa using hb)
theorem all_len (s : Dev) : s.all.length = s.st.length := by simp [Dev.all]
/-- One image more. -/
theorem DvM.snap {w w5 w6 : World} {own : Owner} {gd gs bm g cap : Nat} {s : Dev} {vw vi v4 : Value} {R : List Value} (h : DvM w own gd s gs vw bm vi) (k1 : Grow w w5) (hg : w.heap.size ≤ g) (hb : Blk w5 g 81 (s.all.flatMap u8s ++ R)) (hc1 : s.st.length ≤ cap) (hc2 : cap ≤ maxLen) (hR : R.length = cap * 256 - s.st.length * 256)
    (k2 : But (fun k => vi.ownBlock = some k ∨ k = gd) w5 w6) {L : List PicE} (hL : L.map (·.2) = s.im) (hel : ∀ e ∈ L, RowOf w5 (Is own .pic) 81 256 e.1 s.st.length (e.2.flatMap u8s)) (hrow : w6.ownsRow 0 74 1 v4 (L.length + 1) (L.map (·.1) ++ [.slice (some ⟨g, 0, none⟩) s.st.length cap]))
    (ha : ∀ k, v4.ownBlock = some k → vi.ownBlock = some k ∨ w5.heap.size ≤ k) (hl : ∀ k, v4.ownBlock = some k → k < w6.heap.size)
    (hblk : Blk w6 gd 79 [.slice (some ⟨gs, 0, none⟩) s.st.length s.st.length, vw, .map (some bm), v4, .int .i64 (s.cnt : Int), .int .i64 (s.arm : Int), .bool s.up]) : DvTo w own gd s.snapped w6 := by
  have h5 := h.but k1 (fun _ _ h => h)
  have hgl : g < w5.heap.size := hb.lt
  have hg0 : own g = .none := h.top g hg
  have hvi : ∀ k, vi.ownBlock = some k → own k = .imr := fun k hk => by
    obtain ⟨L, -, hr, -⟩ := h.img.ex
    exact hr.inF k hk
  have e1 : Ext own (tagAt own g .pic) := Ext.tagAt (.inl hg0)
  have hne : ∀ k, vi.ownBlock = some k → tagAt own g .pic k = .imr := fun k hk => e1.is (by decide) k (hvi k hk)
  have e2 : Ext (tagAt own g .pic) (tagV (tagAt own g .pic) v4 .imr) := Ext.tagV (fun k hk => (ha k hk).elim (fun e => .inr (hne k e)) (fun e => .inl (by
    have : ¬ k = g := by omega
    unfold tagAt; rw [if_neg this]; exact h5.top k e)))
  have hext := e1.trans e2
  have q : ∀ {t : Tag}, t ≠ .none → t ≠ .imr → t ≠ .dev → ∀ k, own k = t → ¬ (vi.ownBlock = some k ∨ k = gd) := fun _ h1 h2 k hk hh => by
    rcases hh with hh | hh
    · exact h1 (hk.symm.trans (hvi k hh))
    · exact h2 (hk.symm.trans (by rw [hh]; exact h.tag))
  have hgn : ¬ (vi.ownBlock = some g ∨ g = gd) := fun hh => by
    rcases hh with hh | hh
    · have := hvi g hh; rw [hg0] at this; cases this
    · have := h.tag; rw [← hh, hg0] at this; cases this
  refine ⟨(k1.mono (fun _ _ h => h.elim)).trans (k2.mono (fun k _ e => ?_)), tagV (tagAt own g .pic) v4 .imr, ?_, gs, vw, bm, v4, ?_, hext.is (by decide) gd h.tag, hblk, hext.is (by decide) gs h.stt, h5.sto.but k2 (q (t := .sto) (by decide) (by decide) (by decide) gs h.stt), h5.wri.but k2 (q (by decide) (by decide) (by decide)) (hext.is (by decide)), hext.is (by decide) bm h.mat, h5.map.but k2 (q (t := .map) (by decide) (by decide) (by decide) bm h.mat) (fun c k hk => q (t := .row c) (by simp) (by simp) (by simp) k hk) (fun c k hk => hext.is (by simp) k hk), ?_, ?_⟩
  · rcases e with e | e
    · rw [hvi k e]; decide
    · rw [e, h.tag]; decide
  · exact ((Fresh.refl w own).tagAt (.inl hg)).tagV (fun k hk => (ha k hk).elim (fun e => .inr (hvi k e)) (fun e => .inl (Nat.le_trans k1.size e)))
  · exact ((h5.top.tagAt hgl).grow k2.size).tagV hl
  · refine ⟨L ++ [(.slice (some ⟨g, 0, none⟩) s.st.length cap, s.all)], by simp [hL, Dev.snapped], ⟨?_, fun k hk => tagV_own hk⟩, fun e he => ?_⟩
    · rw [List.length_append, List.map_append]
      exact hrow
    · rcases List.mem_append.1 he with he | he
      · exact (hel e he).but k2 (q (by decide) (by decide) (by decide)) (hext.is (by decide))
      · rw [show e = (.slice (some ⟨g, 0, none⟩) s.st.length cap, s.all) by simpa using he]
        have hb6 := hb.but k2 hgn
        have hfl : (s.all.flatMap u8s).length = s.st.length * 256 := by
          rw [flat_len (s := 256) _ (fun c hc => by rw [u8s_len]; exact (all_wf h.ok c hc).1), all_len]
        refine ⟨⟨hfl, .inr ⟨g, cap, (s.all.flatMap u8s ++ R).toArray, rfl, Nat.zero_le _, hb6, hc1, hc2, ?_, ?_⟩⟩, fun k hk => ?_⟩
        · rw [List.size_toArray, List.length_append, hfl, hR]
          have : s.st.length * 256 ≤ cap * 256 := Nat.mul_le_mul_right _ hc1
          omega
        · show (s.all.flatMap u8s ++ R).take (s.st.length * 256) = _
          rw [← hfl, List.take_append_of_le_length (Nat.le_refl _), List.take_of_length_le (Nat.le_refl _)]
        · have e9 : some g = some k := hk
          have e8 := Option.some.inj e9
          subst e8
          exact e2.is (by decide) g tagAt_own
  · refine ⟨h.ok.n1, h.ok.nb, h.ok.st, h.ok.wr, h.ok.wt, h.ok.wl, fun m hm => ?_⟩
    rcases List.mem_append.1 hm with hm | hm
    · exact h.ok.im m hm
    · rw [show m = s.all by simpa using hm]; exact ⟨all_len s, all_wf h.ok⟩
section
variable {w : World} {own : Owner} {gd : Nat} {s : Dev}
theorem snap_full (h : Dv w own gd s) (hf : s.im.length = 8) :
    Calls Try.prog 23 #[.pointer (some ⟨gd, 0, none⟩)] w fun e w' => e = .returned (.tuple #[.int .i64 0, .int .i64 11]) ∧ w' = w := by
  obtain ⟨gs, vw, bm, vi, h⟩ := h
  obtain ⟨L, hL, hrow, -⟩ := h.img.ex
  obtain ⟨ai, ci, rfl, -⟩ := hrow.shape
  have hll : L.length = 8 := by rw [← hf, ← hL, List.length_map]
  have c3 : w.cell? ⟨gd, 3, none⟩ = some (.slice ai 8 ci) := by rw [← hll]; exact h.blk.cell 3
  clear h hL hrow hll hf
  go_enter Try.func23, Try.ntmps23
  go_wp2
  exact bodyPost_ret (results_tmp2 rfl _ _ _) rfl ⟨rfl, rfl⟩
set_option maxRecDepth 100000 in
set_option maxHeartbeats 4000000 in
theorem snap_any (h : Dv w own gd s) (hf : s.im.length < 8) :
    Calls Try.prog 23 #[.pointer (some ⟨gd, 0, none⟩)] w fun e w' => e = .returned (.tuple #[.int .i64 (s.im.length : Int), .int .i64 0]) ∧ DvTo w own gd s.snapped w' := by
  obtain ⟨gs, vw, bm, vi, h⟩ := h
  have HD := Hid.mk' h
  obtain ⟨L0, hL0, hrow0, -⟩ := h.img.ex
  have hll : L0.length = s.im.length := by rw [← hL0, List.length_map]
  obtain ⟨ai, ci, hvi, -⟩ := hrow0.shape
  have hvi : vi = .slice ai s.im.length ci := by rw [hvi, hll]
  subst hvi
  obtain ⟨m, hm⟩ : ∃ m, m = s.im.length := ⟨_, rfl⟩
  rw [← hm] at HD hf ⊢
  have HM := Hid.mk' hm
  have HMB : Hid (m < 8) := hf
  have hm8 : ((m : Int) == 8) = false := by
    have : ¬ ((m : Int) = 8) := by omega
    simpa using this
  have HCL := Hid.mk' (clones_any h.sto h.ok.st h.ok.n1 h.ok.nb)
  obtain ⟨n, hn⟩ : ∃ n, n = s.st.length := ⟨_, rfl⟩
  rw [← hn] at HCL
  have HN := Hid.mk' hn
  have c3 : w.cell? ⟨gd, 3, none⟩ = some (.slice ai m ci) := HD.out.blk.cell 3
  have c0 : w.cell? ⟨gd, 0, none⟩ = some (.slice (some ⟨gs, 0, none⟩) n n) := by rw [hn]; exact HD.out.blk.cell 0
  clear h hL0 hrow0 hll hm hn hf
  go_enter Try.func23, Try.ntmps23
  go_wp2_with fail
  refine Calls.mono HCL.out ?_
  rintro e w1 ⟨⟨g, cap, R, rfl, hg, hb, hc1, hc2, hR⟩, hg1⟩
  rw [← HN.out] at hc1 hR ⊢
  have hd1 := HD.out.but hg1 (fun _ _ h => h)
  obtain ⟨M, hM, hM2, hM3⟩ := hd1.map.ex
  obtain ⟨w2, hrg, hg2, hsz2, hR2⟩ := hM.range Try.underlying76
  obtain ⟨r, hr⟩ : ∃ r, r = w1.heap.size := ⟨_, rfl⟩
  rw [← hr] at hrg hR2
  have HRG := Hid.mk' hrg
  have HRW : Hid (r = w1.heap.size ∧ g < r ∧ bm < r) := ⟨hr, by rw [hr]; exact hb.lt, by rw [hr]; exact hM.lt⟩
  have HG := Hid.mk' hg
  have HCP : Hid (n ≤ cap ∧ cap ≤ maxLen ∧ R.length = cap * 256 - n * 256) := ⟨hc1, hc2, hR⟩
  have HM2 : Hid (∀ p ∈ M, ∃ b : Nat, p.1 = .int .i64 (b : Int) ∧ b < s.st.length) := fun p hp => by
    obtain ⟨b, e1, e2, e3, e4⟩ := hM2 p hp
    refine ⟨b, e1, ?_⟩
    obtain ⟨i, hi⟩ := List.exists_mem_of_ne_nil _ e3
    obtain ⟨h5, h6⟩ := List.mem_filter.1 hi
    have h7 := HD.out.ok.wl i h5
    have h8 := (HD.out.ok.wr (s.wr.getD i d0) (by rw [List.getD_eq_getElem?_getD, List.getElem?_eq_getElem h7]; exact List.getElem_mem h7)).1
    have h9 : (s.wr.getD i d0).1 = b := by simpa using h6
    rw [h9] at h8; exact h8
  have HB2 := Hid.mk' (hb.but hg2 (fun h => h))
  have HR2 := Hid.mk' hR2
  have HG2 := Hid.mk' (hg1.trans hg2)
  have HI : Hid (FlI s s.st M) := ⟨rfl, HD.out.ok.st, fun b hb hn => (by
    by_cases he : wb s.wr s.wt b = []
    · exact (now_none he).symm
    · exact absurd (hM3 b he) hn)⟩
  have c2 : w1.cell? ⟨gd, 2, none⟩ = some (.map (some bm)) := hd1.blk.cell 2
  clear hg hb hc1 hc2 hR hg1 hd1 hM hM2 hM3 hrg hg2 hsz2 hR2 hr HCL c0 c3
  go_wp2_with (first
    | (refine wpList_run rfl (exec_range rfl rfl HRG.out) ?_)
    | fail)
  clear c2
  refine act_down (fun K hK => ?_)
  go_simp
  refine hK _ ?_
  clear hK K
  go_loopw [6] (fun _ wr => ∃ (L : List (Value × Value)) (st' : List (List Nat)), Rg wr r bm M L ∧ Blk wr g 81 (st'.flatMap u8s ++ R) ∧ FlI s st' L ∧ Grow w wr) (fun _ wr => leftN wr r bm)
  case atStart => exact ⟨M, s.st, HR2.out, HB2.out, HI.out, HG2.out⟩
  case round =>
    clear HR2 HB2 HI HG2 HRG
    obtain ⟨L, st', hR, hB, hI, hG⟩ := hrel
    rcases hR.next (P := Try.prog) 0 with ⟨rfl, hnx⟩ | ⟨p, L', w3, hp, hperm, hnx, hb3, hsz3, hR3, hent⟩
    · have HNX := Hid.mk' hnx
      have hst := hI.done
      subst hst
      have HB : Hid (Blk wr g 81 (s.all.flatMap u8s ++ R)) := hB
      have HGW := Hid.mk' hG
      have hd := HD.out.but hG (fun _ _ h => h)
      have HDW := Hid.mk' hd
      obtain ⟨L0, hL0, hrow0, hel0⟩ := hd.img.ex
      have hl0 : L0.length = m := by rw [HM.out, ← hL0, List.length_map]
      have HRW0 : Hid (RowOf wr (Is own .imr) 74 1 (.slice ai m ci) m (L0.map (·.1))) := by rw [← hl0]; rw [← hl0] at hrow0; exact hrow0
      have HL0 := Hid.mk' hL0
      have HEL0 := Hid.mk' hel0
      have HLM := Hid.mk' hl0
      have c3 : wr.cell? ⟨gd, 3, none⟩ = some (.slice ai m ci) := hd.blk.cell 3
      have HC3 := Hid.mk' c3
      have HNI : Hid (¬ (.slice ai m ci : Value).ownBlock = some gd) := fun e => by
        have h1 : own gd = .imr := HRW0.out.inF gd e
        rw [HD.out.tag] at h1; cases h1
      have hal : Grow wr (wr.alloc (.cells #[.slice (some ⟨g, 0, none⟩) n cap] 74)) := (But.refl _ wr).alloc _
      have HAL := Hid.mk' hal
      have HBL : Hid (Blk (wr.alloc (.cells #[.slice (some ⟨g, 0, none⟩) n cap] 74)) wr.heap.size 74 [.slice (some ⟨g, 0, none⟩) n cap]) := Blk.new (L := [.slice (some ⟨g, 0, none⟩) n cap]) rfl
      clear hnx hR hB hI hG hd hL0 hrow0 hl0 hal hel0
      go_wp2_with (first
        | (refine wpList_run rfl (exec_next rfl rfl rfl HNX.out) ?_)
        | (refine wpList_run rfl (exec_row1 Try.underlying77 infD (by decide) (by decide) rfl rfl rfl) ?_)
        | (refine wpList_some rfl (exec_append (n := m) (xs := L0.map (·.1)) (news := [.slice (some ⟨g, 0, none⟩) n cap]) Try.underlying77 infD rfl (by decide) rfl rfl (ownsRow_grow HRW0.out.own HAL.out) rfl rfl (fun j u hj => HBL.out.cells0 j u hj) (fun u hu => by rw [show u = .slice (some ⟨g, 0, none⟩) n cap by simpa using hu]; rfl) (by have := HMB.out; omega) (by decide)) ?_; intro v4 w4 hap; have hbk4 := (HDW.out.blk.but HAL.out (fun h => h)).but hap.but HNI.out; have f34 : w4.frozen? ⟨gd, 3, none⟩ = false := hbk4.free 3; have c34 : w4.cell? ⟨gd, 3, none⟩ = some (.slice ai m ci) := hbk4.cell 3; have hv4 := ownsRow_one hap.own; obtain ⟨a4, n4, k4, rfl⟩ : ∃ a n k, v4 = .slice a n k := (by obtain ⟨-, ⟨e, -⟩ | ⟨g', c', cu, e, -⟩⟩ := hap.own <;> exact ⟨_, _, _, e⟩))
        | fail)
      refine bodyPost_ret (results_tmp2 rfl _ _ _) rfl ⟨rfl, ?_⟩
      have hne4 : ¬ (.slice a4 n4 k4 : Value).ownBlock = some gd := fun e => by
        rcases hap.at' with h | h
        · exact HNI.out (h.symm.trans e)
        · rw [h] at e
          have e2 := Option.some.inj e
          have := HDW.out.blk.lt
          have := HAL.out.size
          omega
      refine HD.out.snap (g := g) (cap := cap) (R := R) (v4 := .slice a4 n4 k4) (L := L0) (HGW.out.trans HAL.out) HG.out (HB.out.but HAL.out (fun h => h)) (by rw [← HN.out]; exact HCP.out.1) HCP.out.2.1 (by rw [← HN.out]; exact HCP.out.2.2) ((hap.but.mono (fun _ _ h => .inl h)).trans ((But.set1 _ _ _ _).mono (fun _ _ h => .inr h))) HL0.out (fun e he => (HEL0.out e he).but HAL.out (fun _ _ h => h) (fun _ h => h)) ?_ ?_ ?_ ?_
      · rw [HLM.out, ← HN.out]
        exact ownsRow_but hap.own (But.set1 _ _ _ _) (fun j hj e => hne4 (by rw [← e]; exact hj))
      · intro k hk
        rcases hap.at' with h | h
        · exact .inl (h.symm.trans hk)
        · rw [h] at hk
          have e2 := Option.some.inj hk
          exact .inr (by omega)
      · intro k hk
        have := hap.lt k hk
        simpa using this
      · exact hbk4.set 3 (.slice a4 n4 k4)
    · have HNX := Hid.mk' hnx
      have HENT := Hid.mk' hent
      obtain ⟨pk, pv⟩ := p
      obtain ⟨b, e1, hb⟩ := HM2.out _ hp
      simp only at e1
      subst e1
      have HR3 := Hid.mk' hR3
      have HLF : Hid (leftN wr r bm = L'.length + 1) := by
        show _ = _
        rw [hR.left, hperm.length_eq, List.length_cons]
      have HI3 := Hid.mk' (hI.step HD.out.ok hb hperm)
      have hG3 : Grow w w3 := hG.then hb3 (fun i hi e => by
        have h1 := HRW.out
        have h2 := HG.out
        omega)
      have HG3 := Hid.mk' hG3
      have HB3 := Hid.mk' (hB.but hb3 (fun e => by have h1 := HRW.out; omega))
      have HRE := Hid.mk' (reads_any ⟨gs, vw, bm, _, HD.out.but hG3 (fun _ _ h => h)⟩ hb)
      obtain ⟨D, hDe⟩ : ∃ D, D = s.now b := ⟨_, rfl⟩
      have HWF : Hid (wf256 D) := by rw [hDe]; exact HD.out.ok.now hb
      rw [← hDe] at HRE HI3
      have HBL : Hid (b < st'.length) := by show _ < _; rw [hI.len]; exact hb
      have HST : Hid (∀ c ∈ st', wf256 c) := hI.wf
      have hbi : (b : Int) < (n : Int) := by have := HN.out; omega
      clear hnx hent hR hB hI hG hp hperm hb3 hsz3 hR3 hG3 hDe
      go_wp2_with (first
        | (refine wpList_run rfl (exec_next rfl rfl rfl HNX.out) ?_)
        | (refine wpList_run rfl (exec_entry rfl rfl HENT.out) ?_)
        | fail)
      refine Calls.mono HRE.out ?_
      rintro e w4 ⟨rfl, hg4⟩
      have hb4 := HB3.out.but hg4 (fun h => h)
      rw [flat_cut HBL.out, List.append_assoc] at hb4
      have HB4 := Hid.mk' hb4
      have HG4 := Hid.mk' hg4
      have HOLD : Hid ((u8s (st'.getD b [])).length = (u8s D).length) := by
        show _ = _
        rw [u8s_len, u8s_len, HWF.out.1]
        exact (HST.out _ (by rw [List.getD_eq_getElem?_getD, List.getElem?_eq_getElem HBL.out]; exact List.getElem_mem HBL.out)).1
      clear hb4 hg4
      go_wp2_with (first
        | (refine wpList_store_at rfl _ _ _ rfl g (b * 256) (u8s D) rfl rfl 81 ((st'.take b).flatMap u8s) (u8s (st'.getD b [])) ((st'.drop (b + 1)).flatMap u8s ++ R) HB4.out (flat_pre HST.out (Nat.le_of_lt HBL.out)) HOLD.out (by rw [i256, u8s_len, HWF.out.1]) (u8s_one _) ?_; intro w5 hb5 hbut5)
        | fail)
      have hR5 := (HR3.out.but HG4.out (fun h => h) (fun h => h)).but hbut5 (fun e => by have := HRW.out; omega) (fun e => by
        have h1 := HG.out
        have h2 := HD.out.top.lt (b := bm) (by rw [HD.out.mat]; decide)
        omega)
      refine ⟨⟨_, _, _, _, _, _, _, _, _, _, _, ⟨L', st'.set b D, hR5, ?_, HI3.out, (HG3.out.trans HG4.out).then hbut5 (fun i hi e => by have := HG.out; omega)⟩, rfl⟩, ?_⟩
      · rw [flat_set HBL.out, List.append_assoc]; exact hb5
      · rw [hR5.left, HLF.out]; omega
end
end Go.Proofs.Ytfgcbcopgikodaa
/- Written: all writes, told in new memory. -/
namespace Go.Proofs.Ytfgcbcopgikodaa
open Go.RowKit

/-- A write that is told: the write, and the slice of its bytes. -/
abbrev TlE := WrE × Value
def tlc (e : TlE) : List Value := [.int .i64 (e.1.1 : Int), e.2]
/-- A row of writes in memory that is new since base. -/
structure TlRow (w : World) (base : Nat) (v : Value) (L : List TlE) : Prop where
  own : w.ownsRow 0 58 2 v L.length (L.flatMap tlc)
  new : ∀ k, v.ownBlock = some k → base ≤ k
  el : ∀ e ∈ L, Ow w base e.2 e.1.2
  dif : L.Pairwise (fun a b => ∀ k, a.2.ownBlock = some k → b.2.ownBlock ≠ some k)
  row : ∀ e ∈ L, ∀ k, v.ownBlock = some k → e.2.ownBlock ≠ some k
theorem TlRow.but {R : Nat → Prop} {w w' : World} {base : Nat} {v : Value} {L : List TlE} (h : TlRow w base v L) (k : But R w w') (hr : ∀ j, base ≤ j → ¬ R j) : TlRow w' base v L :=
  ⟨ownsRow_but h.own k (fun j hj => hr j (h.new j hj)), h.new, fun e he => (h.el e he).but k (fun j hj _ => hr j ((h.el e he).ge j hj).1), h.dif, h.row⟩
theorem tlc_len (e : TlE) : (tlc e).length = 2 := rfl
theorem zeroWr : (Try.prog.info? 58).map (fun i => (i.zero, i.size, i.bytes)) = some (some (.agg #[.int .i64 0, .slice none 0 0]), 2, 32) := by kernel_rfl
theorem built_wr (x : Int) (a : Option Addr) (n c : Nat) (w : World) : (Instr.build 58 #[(0, .int .i64 x), (1, .slice a n c)]).run Try.prog w = .ok (.agg #[.int .i64 x, .slice a n c]) w := run_build w _ _ _ (by kernel_rfl)
theorem iWr : (Try.prog.info? 83).map (·.size) = some 257 := by kernel_rfl
theorem zWr (w : World) : (zeroValue 83).run Try.prog w = .ok (.agg zeroW) w := by kernel_rfl
/-- What Written tells. -/
structure ToldIs (w : World) (wr : List WrE) (e : Ending) (w' : World) : Prop where
  ex : ∃ v L, e = .returned v ∧ TlRow w' w.heap.size v L ∧ L.map (·.1) = wr
  grow : Grow w w'
section
variable {w : World} {own : Owner} {gd : Nat} {s : Dev}
set_option maxRecDepth 100000 in
set_option maxHeartbeats 4000000 in
theorem written_any (h : Dv w own gd s) (hm : s.wr.length ≤ 100000) :
    Calls Try.prog 14 #[.pointer (some ⟨gd, 0, none⟩)] w (ToldIs w s.wr) := by
  obtain ⟨gs, vw, bm, vi, h⟩ := h
  have HD := Hid.mk' h
  obtain ⟨aw, cw, hvw, -⟩ := h.wri.shape
  subst hvw
  obtain ⟨m, hme⟩ : ∃ m, m = s.wr.length := ⟨_, rfl⟩
  have HME := Hid.mk' hme
  have HMB : Hid (m ≤ 100000) := by show _ ≤ _; omega
  have hmb : (m : Int) ≤ 100000 := by omega
  have c1 : w.cell? ⟨gd, 1, none⟩ = some (.slice aw m cw) := by rw [hme]; exact h.blk.cell 1
  obtain ⟨Z, hZ⟩ : ∃ Z : List Value, Z = .int .i64 0 :: List.replicate 256 (.int .u8 0) := ⟨_, rfl⟩
  have hz := zWr
  have hzw : zeroW = Z.toArray := by rw [hZ]; rfl
  rw [hzw] at hz
  have HZL : Hid (Z.length = 257) := by show _ = _; rw [hZ]; rfl
  clear h hme hm hZ hzw
  go_enter Try.func14, Try.ntmps14
  go_wp2
  clear c1
  go_loopw [3, 13] (fun tv iv wr => ∃ (i : Nat) (v : Value) (L : List TlE), i ≤ m ∧ iv = .int .i64 i ∧ v = tv ∧ TlRow wr w.heap.size v L ∧ L.map (·.1) = s.wr.take i ∧ Grow w wr) (fun _ iv _ => m - (intOf iv).toNat)
  case atStart => exact ⟨0, .slice none 0 0, [], Nat.zero_le _, rfl, rfl, ⟨World.ownsRow_nil _ _ _ _, (fun k hk => by cases hk), (fun e he => absurd he List.not_mem_nil), .nil, (fun e he => absurd he List.not_mem_nil)⟩, rfl, But.refl _ _⟩
  case round =>
    rename_i tv
    obtain ⟨i, v, L, him, rfl, rfl, hT, hLm, hG⟩ := hrel
    have HT := Hid.mk' hT
    have HLM := Hid.mk' hLm
    have HG := Hid.mk' hG
    have hLl : L.length = i := by
      have := congrArg List.length hLm
      rw [List.length_map, List.length_take] at this
      have := HME.out
      omega
    have HLL := Hid.mk' hLl
    by_cases hlt : i < m
    · have hlti : (i : Int) < (m : Int) := by omega
      have hiw : i < s.wr.length := by rw [← HME.out]; exact hlt
      have hd := HD.out.but hG (fun _ _ h => h)
      obtain ⟨gw, cw', e1, hgw, hcw⟩ := hd.wrote hiw
      simp only [Value.slice.injEq] at e1
      obtain ⟨rfl, -, rfl⟩ := e1
      obtain ⟨e, he⟩ : ∃ e, e = s.wr.getD i d0 := ⟨_, rfl⟩
      have hwf := HD.out.ok.wr e (by rw [he, List.getD_eq_getElem?_getD, List.getElem?_eq_getElem hiw]; exact List.getElem_mem hiw)
      rw [← he] at hcw
      have HNX : Hid (s.wr.take (i + 1) = s.wr.take i ++ [e]) := by
        show _ = _
        rw [List.take_succ_eq_append_getElem hiw, he, List.getD_eq_getElem?_getD, List.getElem?_eq_getElem hiw]; rfl
      have HCW : Hid (∀ c u, (wcell e)[c]? = some u → wr.cell? ((⟨gw, i * 257, none⟩ : Addr).add c) = some u) := fun c u hc => by rw [addr_add]; exact hcw c u hc
      have HWL : Hid ((wcell e).length = 257) := wcell_len hwf.2
      have HXW : Hid (wf256 e.2) := hwf.2
      have HBZ : Hid (Blk (wr.alloc (.cells Z.toArray 83)) wr.heap.size 83 Z) := Blk.new rfl
      clear hT hLm hG hLl hiw hd hgw hcw hwf he
      go_upto_region 7 with (first
        | (refine wpList_load_cells rfl _ _ rfl ⟨gw, i * 257, none⟩ rfl (wcell e) _ HCW.out Try.underlying83 rfl (by rw [iWr, HWL.out]) ?_)
        | (refine wpList_store_at rfl _ _ _ rfl wr.heap.size 0 (wcell e) rfl rfl 83 [] Z [] (by simpa using HBZ.out) rfl (by rw [HZL.out, HWL.out]) (by rw [iWr, HWL.out]) (wcell_one _) ?_; intro w1 hb1 hbut1; rw [List.nil_append, List.append_nil] at hb1)
        | fail)
      obtain ⟨g5, hg5⟩ : ∃ g, g = wr.heap.size := ⟨_, rfl⟩
      rw [← hg5] at hb1 hbut1 ⊢
      have hG1 : Grow wr w1 := ((But.refl _ wr).alloc _).then hbut1 (fun i hi e => by omega)
      have HB1 := Hid.mk' hb1
      have HG1 := Hid.mk' hG1
      have HGW := Hid.mk' (HG.out.trans hG1)
      have HT1 := Hid.mk' (HT.out.but hG1 (fun _ _ h => h))
      have HG5 : Hid (w.heap.size ≤ g5 ∧ g5 < w1.heap.size) := ⟨by rw [hg5]; exact HG.out.size, hb1.lt⟩
      have HVG : Hid (∀ k, v.ownBlock = some k → k < g5) := fun k hk => by rw [hg5]; exact (HT.out.own.lt k hk).2
      have HTL : Hid (∀ k, v.ownBlock = some k → k < w1.heap.size) := fun k hk => (HT1.out.own.lt k hk).2
      obtain ⟨b, xs⟩ := e
      have HBS : Hid (Bs w1 (.slice (some ⟨g5, 1, none⟩) 256 256) xs) := by
        refine ⟨HXW.out.2, by rw [HXW.out.1]; omega, .inr ⟨by rw [HXW.out.1]; omega, g5, 1, 256, by rw [HXW.out.1], by rw [HXW.out.1]; exact Nat.le_refl _, hb1.lt, fun c hc => ?_⟩⟩
        rw [hb1.cell]
        show (.int .i64 (b : Int) :: u8s xs : List Value)[1 + c]? = _
        rw [Nat.add_comm, List.getElem?_cons_succ]
        exact u8s_get xs c hc
      have HV1 : Hid (v.oneCell' = true) := ownsRow_one HT1.out.own
      clear hb1 hbut1 hG1 hg5 HBZ
      refine region_chain [([0, 1, 2, 3, 4], 5), ([6], 7), ([], 8)] [9] (But (fun k => v.ownBlock = some k) w1) (Grow w1) (by kernel_rfl) (by kernel_rfl) (fun _ _ h k => h.trans k) (fun _ h => h.mono (fun _ _ h => h.elim)) ((But.refl _ w1).drew) ?_
      intro ι hne X hX
      have c0 : ∀ x, (X x).cell? ⟨g5, 0, none⟩ = some (.int .i64 (b : Int)) := fun x => (HB1.out.but (hX x) (fun e => by have := HVG.out g5 e; omega)).cell 0
      iterate 5 (refine still_step rfl (fun K hK => ?_); go_simp; refine hK _ ?_; clear hK K)
      refine still_nil ?_
      clear c0 hX hne
      refine turn_call rfl rfl (fun u w' => Grow w1 w' ∧ Ow w' w1.heap.size u xs) (fun _ => But (fun k => v.ownBlock = some k) w1) (fun u w1 w2 h k => ⟨h.1.trans k, h.2.but k (fun _ _ _ h => h)⟩) (fun u w1 h => h.1.mono (fun _ _ h => h.elim)) (.inr (fun _ _ h => h)) 47 #[.slice (some ⟨g5, 1, none⟩) 256 256] (fun _ => by kernel_rfl) ?_ ?_
      · intro w4 h4
        refine (clone_any (HBS.out.but h4 (fun _ _ _ h => h)) (by rw [HXW.out.1]; omega)).mono ?_
        rintro e w5 ⟨u, rfl, h5, h6⟩
        exact ⟨u, rfl, h4.trans (But.of h6), h5.mono h4.size⟩
      rintro u ⟨wq, -, hu⟩ Y hY
      obtain ⟨ua, un, uc, rfl⟩ := hu.bs.sl
      clear hu wq
      go_simp
      refine hY _ ?_
      clear hY Y
      intro ι hne X hX
      refine still_val rfl (.agg #[.int .i64 (b : Int), .slice ua un uc]) rfl (fun x => exec_build _ [_, _] rfl [(0, .int .i64 (b : Int)), (1, .slice ua un uc)] rfl _ (built_wr (b : Int) ua un uc _)) ?_
      intro K hK; go_simp; refine hK _ ?_; clear hK K
      refine still_nil ?_
      clear hX hne
      refine turn_run rfl rfl (fun u w' => (Grow w1 w' ∧ Ow w' w1.heap.size (.slice ua un uc) xs) ∧ ∃ g, u = .slice (some ⟨g, 0, none⟩) 1 1 ∧ Blk w' g 58 [.int .i64 (b : Int), .slice ua un uc]) (fun _ => But (fun k => v.ownBlock = some k) w1) ?_ (fun _ _ h => h.1.1.mono (fun _ _ h => h.elim)) (.inr (fun _ _ h => h)) ?_ ?_
      · rintro u w4 w5 ⟨⟨h1, h2⟩, g, h3, h4⟩ k
        exact ⟨⟨h1.trans k, h2.but k (fun _ _ _ h => h)⟩, g, h3, h4.but k (fun h => h)⟩
      · rintro w4 ⟨h4, h5⟩
        refine turn_row1 (v := .agg #[.int .i64 (b : Int), .slice ua un uc]) Try.underlying37 zeroWr (by decide) (by decide) rfl rfl rfl ⟨⟨h4.trans ((But.refl _ w4).alloc _), h5.but ((But.refl (fun _ => False) w4).alloc _) (fun _ _ _ h => h)⟩, _, rfl, ?_⟩
        exact Blk.new (L := [.int .i64 (b : Int), .slice ua un uc]) rfl
      rintro u ⟨wq, -, gn, rfl, -⟩ Y hY
      clear wq
      go_simp
      refine hY _ ?_
      clear hY Y
      intro ι hne X hX
      refine still_nil ?_
      clear hX hne
      refine turn_run rfl rfl (fun u w' => But (fun k => v.ownBlock = some k) w1 w' ∧ Ow w' w1.heap.size (.slice ua un uc) xs ∧ w'.ownsRow 0 58 2 u (i + 1) (L.flatMap tlc ++ [.int .i64 (b : Int), .slice ua un uc]) ∧ (∀ k, u.ownBlock = some k → v.ownBlock = some k ∨ (w1.heap.size ≤ k ∧ (.slice ua un uc : Value).ownBlock ≠ some k))) (fun _ => But (fun k => v.ownBlock = some k) w1) ?_ (fun _ _ h => h.1) (.inr (fun _ _ h => h)) ?_ ?_
      · rintro u w4 w5 ⟨h1, h2, h3, h4⟩ k
        exact ⟨h1.trans (k.mono (fun _ _ h => h.elim)), h2.but k (fun _ _ _ h => h), ownsRow_grow h3 k, h4⟩
      · rintro w4 ⟨⟨h1, h2⟩, g', e9, h3⟩
        cases e9
        refine turn_append (v := v) (n := i) (xs := L.flatMap tlc) (news := [.int .i64 (b : Int), .slice ua un uc]) Try.underlying37 zeroWr rfl (by decide) rfl rfl (by rw [← HLL.out]; exact ownsRow_grow HT1.out.own h1) rfl rfl (fun j u hj => h3.cells0 j u hj) (fun u hu => by
          rcases List.mem_cons.1 hu with rfl | hu
          · rfl
          · rw [show u = .slice ua un uc by simpa using hu]; rfl) (by have := HMB.out; omega) (by decide) ?_
        intro v' w5 hap
        refine ⟨(h1.mono (fun _ _ h => h.elim)).trans hap.but, h2.but hap.but (fun j hj _ e => by have := HTL.out j e; have := (h2.ge j hj).1; omega), hap.own, fun j hj => ?_⟩
        rcases hap.at' with e | e
        · exact .inl (by rw [← e]; exact hj)
        · rw [e] at hj
          cases hj
          refine .inr ⟨h1.size, fun e2 => ?_⟩
          have := (h2.ge _ e2).2
          omega
      rintro v2 ⟨wq, -, -, hov, -⟩ Y hY
      clear hov wq
      go_simp
      refine hY _ ?_
      clear hY Y
      intro ι hne X hX
      iterate 1 (refine still_step rfl (fun K hK => ?_); go_simp; refine hK _ ?_; clear hK K)
      refine still_nil ?_
      clear hX hne
      rintro w6 ⟨h1, h2, h3, h4⟩
      have hT6 : TlRow w6 w.heap.size v2 (L ++ [((b, xs), .slice ua un uc)]) := by
        have hnew : ∀ e ∈ L, ∀ k, e.2.ownBlock = some k → k < w1.heap.size ∧ ¬ v.ownBlock = some k := fun e he k hk => ⟨((HT1.out.el e he).ge k hk).2, fun e2 => HT1.out.row e he k e2 hk⟩
        refine ⟨?_, fun k hk => ?_, fun e he => ?_, ?_, fun e he k hk => ?_⟩
        · rw [List.length_append, List.length_singleton, HLL.out, List.flatMap_append]
          exact h3
        · rcases h4 k hk with h5 | ⟨h5, -⟩
          · exact HT1.out.new k h5
          · exact Nat.le_trans HGW.out.size h5
        · rcases List.mem_append.1 he with he | he
          · exact (HT1.out.el e he).but h1 (fun j hj _ e2 => (hnew e he j hj).2 e2)
          · rw [show e = ((b, xs), .slice ua un uc) by simpa using he]
            exact h2.mono HGW.out.size
        · refine List.pairwise_append.2 ⟨HT1.out.dif, List.pairwise_singleton _ _, fun e he f hf k hk hk2 => ?_⟩
          rw [show f = ((b, xs), .slice ua un uc) by simpa using hf] at hk2
          have := (hnew e he k hk).1
          have := (h2.ge k hk2).1
          omega
        · rcases List.mem_append.1 he with he | he
          · intro hk2
            rcases h4 k hk with h5 | ⟨h5, -⟩
            · exact (hnew e he k hk2).2 h5
            · have := (hnew e he k hk2).1; omega
          · rw [show e = ((b, xs), .slice ua un uc) by simpa using he]
            intro hk2
            rcases h4 k hk with h5 | ⟨-, h5⟩
            · have := HTL.out k h5
              have := (h2.ge k hk2).1
              omega
            · exact h5 hk2
      have HT6 := Hid.mk' hT6
      have HG6 : Hid (Grow w w6) := HGW.out.then h1 (fun j hj e => by have := HT1.out.new j e; omega)
      have HL6 : Hid ((L ++ [((b, xs), (.slice ua un uc : Value))]).map (·.1) = s.wr.take (i + 1)) := by
        show _ = _
        rw [List.map_append, HLM.out, HNX.out]; rfl
      clear h1 h2 h3 h4 hT6
      go_wp2
      exact ⟨⟨i + 1, v2, _, by omega, by go_num, rfl, HT6.out, HL6.out, HG6.out⟩, by simp [intOf]; omega⟩
    · have hlti : ¬ ((i : Int) < (m : Int)) := by omega
      have HFN : Hid (L.map (·.1) = s.wr) := by show _ = _; rw [hLm, List.take_of_length_le (by have := HME.out; omega)]
      clear hT hLm hG hLl
      go_wp2
      go_ret
      exact ⟨⟨_, L, rfl, HT.out, HFN.out⟩, HG.out⟩
end
end Go.Proofs.Ytfgcbcopgikodaa
/- The reference's device: what it holds, and how that lies in memory; its short functions. -/
namespace Go.Proofs.Ytfgcbcopgikodaa
open Go.RowKit

structure Rdv where
  st : List (List Nat)
  wt : List WrE
  off : Bool
  arm : Nat
  cnt : Nat
  im : List (List (List Nat))
  wr : List WrE
/-- How a block reads: the last one of it that waits, else as it is stored. -/
def lastOf (wt : List WrE) (b : Nat) (d : List Nat) : List Nat := wt.foldl (fun c e => if e.1 = b then e.2 else c) d
def Rdv.now (x : Rdv) (b : Nat) : List Nat := lastOf x.wt b (x.st.getD b [])
structure Rdv.ok (x : Rdv) : Prop where
  n1 : 1 ≤ x.st.length
  nb : x.st.length ≤ 65536
  st : ∀ c ∈ x.st, wf256 c
  wt : ∀ e ∈ x.wt, e.1 < x.st.length ∧ wf256 e.2
  wr : ∀ e ∈ x.wr, e.1 < x.st.length ∧ wf256 e.2
  im : ∀ m ∈ x.im, m.length = x.st.length ∧ ∀ c ∈ m, wf256 c
theorem lastOf_wf {n b : Nat} : ∀ {wt : List WrE} {d : List Nat}, wf256 d → (∀ e ∈ wt, e.1 < n ∧ wf256 e.2) → wf256 (lastOf wt b d)
  | [], _, hd, _ => hd
  | e :: wt, d, hd, h => by
    unfold lastOf
    rw [List.foldl_cons]
    refine lastOf_wf (n := n) (wt := wt) ?_ (fun e he => h e (List.mem_cons_of_mem _ he))
    split
    · exact (h e List.mem_cons_self).2
    · exact hd
theorem Rdv.ok.now {x : Rdv} (h : x.ok) {b : Nat} (hb : b < x.st.length) : wf256 (x.now b) :=
  lastOf_wf (n := x.st.length) (h.st _ (by rw [List.getD_eq_getElem?_getD, List.getElem?_eq_getElem hb]; exact List.getElem_mem hb)) h.wt
abbrev SbE := Value × List Nat
structure StR (w : World) (ro : Owner) (vs : Value) (st : List (List Nat)) : Prop where
  ex : ∃ L : List SbE, L.map (·.2) = st ∧ RowOf w (Is ro .sto) 32 1 vs L.length (L.map (·.1)) ∧ ∀ b e, L[b]? = some e → Ow w 0 e.1 e.2 ∧ ∀ k, e.1.ownBlock = some k → ro k = .row b
structure WtR (w : World) (ro : Owner) (t : Tag) (v : Value) (wt : List WrE) : Prop where
  ex : ∃ L : List TlE, L.map (·.1) = wt ∧ RowOf w (Is ro t) 58 2 v L.length (L.flatMap tlc) ∧ ∀ e ∈ L, Bf w (Is ro .pic) e.2 e.1.2
structure CpR (w : World) (ro : Owner) (v : Value) (im : List (List (List Nat))) : Prop where
  ex : ∃ L : List PicE, L.map (·.2) = im ∧ RowOf w (Is ro .imr) 39 1 v L.length (L.map (·.1)) ∧ ∀ e ∈ L, ∃ M : List SbE, M.map (·.2) = e.2 ∧ RowOf w (Is ro .pic) 32 1 e.1 M.length (M.map (·.1)) ∧ ∀ f ∈ M, Bf w (Is ro .pic) f.1 f.2
structure RdM (w : World) (ro : Owner) (gx : Nat) (x : Rdv) (vs vq vc vw : Value) : Prop where
  top : Top w ro
  tag : ro gx = .dev
  blk : Blk w gx 42 [vs, vq, .bool x.off, .int .i64 (x.arm : Int), .int .i64 (x.cnt : Int), vc, vw]
  sto : StR w ro vs x.st
  wai : WtR w ro .map vq x.wt
  cop : CpR w ro vc x.im
  wri : WtR w ro .wri vw x.wr
  ok : x.ok
def Rd (w : World) (ro : Owner) (gx : Nat) (x : Rdv) : Prop := ∃ vs vq vc vw, RdM w ro gx x vs vq vc vw
section
variable {w w' : World} {ro ro' : Owner} {gx : Nat} {x : Rdv} {vs vq vc vw v : Value} {R : Nat → Prop} {st : List (List Nat)} {wt : List WrE} {im : List (List (List Nat))} {t : Tag}
theorem StR.but (h : StR w ro vs st) (k : But R w w') (hr : ∀ j, ro j = .sto ∨ (∃ b, ro j = .row b) → ¬ R j) (ho : ∀ j, ro j ≠ .none → ro' j = ro j) : StR w' ro' vs st := by
  obtain ⟨L, h1, h2, h3⟩ := h.ex
  refine ⟨L, h1, h2.but k (fun j hj => hr j (.inl hj)) (fun j hj => (ho j (by rw [show ro j = _ from hj]; decide)).trans hj), fun b e he => ?_⟩
  obtain ⟨h4, h5⟩ := h3 b e he
  exact ⟨h4.but k (fun j hj _ => hr j (.inr ⟨b, h5 j hj⟩)), fun j hj => (ho j (by rw [h5 j hj]; simp)).trans (h5 j hj)⟩
theorem WtR.but (h : WtR w ro t v wt) (ht : t ≠ .none) (k : But R w w') (hr : ∀ j, ro j = t ∨ ro j = .pic → ¬ R j) (ho : ∀ j, ro j ≠ .none → ro' j = ro j) : WtR w' ro' t v wt := by
  obtain ⟨L, h1, h2, h3⟩ := h.ex
  refine ⟨L, h1, h2.but k (fun j hj => hr j (.inl hj)) (fun j hj => (ho j (by rw [show ro j = _ from hj]; exact ht)).trans hj), fun e he => ?_⟩
  have h4 := (h3 e he).but k (fun j hj => hr j (.inr hj))
  exact ⟨h4.1, fun h0 j hj => (ho j (by rw [show ro j = _ from h4.2 h0 j hj]; decide)).trans (h4.2 h0 j hj)⟩
theorem CpR.but (h : CpR w ro v im) (k : But R w w') (hr : ∀ j, ro j = .imr ∨ ro j = .pic → ¬ R j) (ho : ∀ j, ro j ≠ .none → ro' j = ro j) : CpR w' ro' v im := by
  obtain ⟨L, h1, h2, h3⟩ := h.ex
  refine ⟨L, h1, h2.but k (fun j hj => hr j (.inl hj)) (fun j hj => (ho j (by rw [show ro j = _ from hj]; decide)).trans hj), fun e he => ?_⟩
  obtain ⟨M, h4, h5, h6⟩ := h3 e he
  refine ⟨M, h4, h5.but k (fun j hj => hr j (.inr hj)) (fun j hj => (ho j (by rw [show ro j = _ from hj]; decide)).trans hj), fun f hf => ?_⟩
  have h7 := (h6 f hf).but k (fun j hj => hr j (.inr hj))
  exact ⟨h7.1, fun h0 j hj => (ho j (by rw [show ro j = _ from h7.2 h0 j hj]; decide)).trans (h7.2 h0 j hj)⟩
theorem RdM.but (h : RdM w ro gx x vs vq vc vw) (k : But R w w') (hr : ∀ b, ro b ≠ .none → ¬ R b) : RdM w' ro gx x vs vq vc vw := by
  have hx : ∀ {t : Tag}, t ≠ .none → ∀ b, ro b = t → ¬ R b := fun h1 b hb => hr b (by rw [hb]; exact h1)
  exact ⟨h.top.grow k.size, h.tag, h.blk.but k (hx (t := .dev) (by decide) gx h.tag), h.sto.but k (fun j hj => hj.elim (hx (by decide) j) (fun ⟨b, hb⟩ => hx (t := .row b) (by simp) j hb)) (fun _ _ => rfl), h.wai.but (by decide) k (fun j hj => hj.elim (hx (by decide) j) (hx (by decide) j)) (fun _ _ => rfl), h.cop.but k (fun j hj => hj.elim (hx (by decide) j) (hx (by decide) j)) (fun _ _ => rfl), h.wri.but (by decide) k (fun j hj => hj.elim (hx (by decide) j) (hx (by decide) j)) (fun _ _ => rfl), h.ok⟩
theorem Rd.grow (h : Rd w ro gx x) (k : Grow w w') : Rd w' ro gx x := by
  obtain ⟨vs, vq, vc, vw, h⟩ := h
  exact ⟨vs, vq, vc, vw, h.but k (fun _ _ h => h)⟩
theorem Rd.ok (h : Rd w ro gx x) : x.ok := by obtain ⟨_, _, _, _, h⟩ := h; exact h.ok
theorem Rd.top (h : Rd w ro gx x) : Top w ro := by obtain ⟨_, _, _, _, h⟩ := h; exact h.top
/-- What a call on the reference leaves. -/
structure RdTo (w : World) (ro : Owner) (gx : Nat) (x : Rdv) (w' : World) : Prop where
  but : But (fun b => ro b ≠ .none) w w'
  ex : ∃ ro', Fresh w ro ro' ∧ Rd w' ro' gx x
theorem RdTo.grow {w'' : World} (h : RdTo w ro gx x w') (k : Grow w' w'') : RdTo w ro gx x w'' := by
  obtain ⟨ro', h1, h2⟩ := h.ex
  exact ⟨h.but.trans (k.mono (fun _ _ h => h.elim)), ro', h1, h2.grow k⟩
theorem Rd.same (h : Rd w ro gx x) (k : Grow w w') : RdTo w ro gx x w' := ⟨k.mono (fun _ _ h => h.elim), ro, Fresh.refl _ _, h.grow k⟩
theorem RdTo.next {w1 w2 : World} {ro1 : Owner} {x2 : Rdv} (k : But (fun b => ro b ≠ .none) w w1) (f : Fresh w ro ro1) (h : RdTo w1 ro1 gx x2 w2) : RdTo w ro gx x2 w2 := by
  obtain ⟨ro2, f2, d2⟩ := h.ex
  refine ⟨k.then (S := fun k => ro1 k ≠ .none) h.but (fun k hk e h0 => ?_), ro2, fun k' hk => ?_, d2⟩
  · by_cases hq : ro1 k = ro k
    · exact e (hq.trans h0)
    · have := f k hq; omega
  · by_cases hq : ro2 k' = ro1 k'
    · exact f k' (by rw [← hq]; exact hk)
    · exact Nat.le_trans k.size (f2 k' hq)
/-- Numbers turned. -/
theorem RdM.scal (h : RdM w ro gx x vs vq vc vw) {o : Bool} {a c : Nat} (k : But (· = gx) w w') (hb : Blk w' gx 42 [vs, vq, .bool o, .int .i64 (a : Int), .int .i64 (c : Int), vc, vw]) : RdM w' ro gx { x with off := o, arm := a, cnt := c } vs vq vc vw := by
  have hx : ∀ {t : Tag}, t ≠ .dev → ∀ b, ro b = t → ¬ b = gx := fun h1 b hb e => h1 (by rw [← hb, e]; exact h.tag)
  exact ⟨h.top.grow k.size, h.tag, hb, h.sto.but k (fun j hj => hj.elim (hx (by decide) j) (fun ⟨b, hb⟩ => hx (t := .row b) (by simp) j hb)) (fun _ _ => rfl), h.wai.but (by decide) k (fun j hj => hj.elim (hx (by decide) j) (hx (by decide) j)) (fun _ _ => rfl), h.cop.but k (fun j hj => hj.elim (hx (by decide) j) (hx (by decide) j)) (fun _ _ => rfl), h.wri.but (by decide) k (fun j hj => hj.elim (hx (by decide) j) (hx (by decide) j)) (fun _ _ => rfl), ⟨h.ok.n1, h.ok.nb, h.ok.st, h.ok.wt, h.ok.wr, h.ok.im⟩⟩
theorem RdM.scalTo (h : RdM w ro gx x vs vq vc vw) {o : Bool} {a c : Nat} (k : But (· = gx) w w') (hb : Blk w' gx 42 [vs, vq, .bool o, .int .i64 (a : Int), .int .i64 (c : Int), vc, vw]) : RdTo w ro gx { x with off := o, arm := a, cnt := c } w' :=
  ⟨k.mono (fun b _ e => by rw [e, h.tag]; decide), ro, Fresh.refl _ _, vs, vq, vc, vw, h.scal k hb⟩
theorem StR.len (h : StR w ro vs st) : ∃ a c, vs = .slice a st.length c := by
  obtain ⟨L, h1, h2, -⟩ := h.ex
  obtain ⟨a, c, e, -⟩ := h2.shape
  exact ⟨a, c, by rw [e, ← h1, List.length_map]⟩
theorem WtR.len (h : WtR w ro t v wt) : ∃ a c, v = .slice a wt.length c := by
  obtain ⟨L, h1, h2, -⟩ := h.ex
  obtain ⟨a, c, e, -⟩ := h2.shape
  exact ⟨a, c, by rw [e, ← h1, List.length_map]⟩
theorem CpR.len (h : CpR w ro v im) : ∃ a c, v = .slice a im.length c := by
  obtain ⟨L, h1, h2, -⟩ := h.ex
  obtain ⟨a, c, e, -⟩ := h2.shape
  exact ⟨a, c, by rw [e, ← h1, List.length_map]⟩
theorem rhas_any (h : Rd w ro gx x) (y : Int) :
    Calls Try.prog 54 #[.pointer (some ⟨gx, 0, none⟩), .int .i64 y] w fun e w' => e = .returned (.bool (decide (0 ≤ y ∧ y < (x.st.length : Int)))) ∧ w' = w := by
  obtain ⟨vs, vq, vc, vw, h⟩ := h
  obtain ⟨a, c, rfl⟩ := h.sto.len
  have c0 : w.cell? ⟨gx, 0, none⟩ = some (.slice a x.st.length c) := h.blk.cell 0
  clear h
  generalize x.st.length = n at *
  rcases (by omega : y < 0 ∨ (0 ≤ y ∧ y < (n : Int)) ∨ (0 ≤ y ∧ ¬ y < (n : Int))) with h1 | ⟨h1, h2⟩ | ⟨h1, h2⟩
  · have h3 : ¬ (0 ≤ y) := by omega
    go_enter Try.func54, Try.ntmps54
    go_wp2
    go_ret
    simp; omega
  · go_enter Try.func54, Try.ntmps54
    go_wp2
    go_ret
    simp [h1, h2]
  · go_enter Try.func54, Try.ntmps54
    go_wp2
    go_ret
    simp [h2]
/-- What an access leaves. -/
def Rdv.acc (x : Rdv) : Rdv := { x with cnt := x.cnt + 1, arm := x.arm - 1, off := x.arm == 1 }
theorem raccess_any (h : Rd w ro gx x) (hu : x.off = false) (hc : x.cnt < 4611686018427387904) (ha : x.arm ≤ 9223372036854775807) :
    Calls Try.prog 55 #[.pointer (some ⟨gx, 0, none⟩)] w fun e w' => e = .returned (.bool (!(x.arm == 1))) ∧ RdTo w ro gx x.acc w' := by
  obtain ⟨vs, vq, vc, vw, h⟩ := h
  have HH := Hid.mk' h
  have hb := h.blk
  rw [hu] at hb
  have c4 : w.cell? ⟨gx, 4, none⟩ = some (.int .i64 (x.cnt : Int)) := hb.cell 4
  have f4 : w.frozen? ⟨gx, 4, none⟩ = false := hb.free 4
  have f3 : w.frozen? ⟨gx, 3, none⟩ = false := hb.free 3
  have f2 : w.frozen? ⟨gx, 2, none⟩ = false := hb.free 2
  have c3 : w.cell? ⟨gx, 3, none⟩ = some (.int .i64 (x.arm : Int)) := hb.cell 3
  have c2 : w.cell? ⟨gx, 2, none⟩ = some (.bool false) := hb.cell 2
  have HFIN : Hid (∀ w' : World, ∀ c a : Nat, ∀ o : Bool, But (· = gx) w w' → Blk w' gx 42 [vs, vq, .bool o, .int .i64 (a : Int), .int .i64 (c : Int), vc, vw] → c = x.cnt + 1 → a = x.arm - 1 → o = (x.arm == 1) → RdTo w ro gx x.acc w') := fun w' c a o k hb e1 e2 e3 => by
    subst e1 e2 e3
    exact HH.out.scalTo k hb
  have hcnt : ((x.cnt : Int) + 1) ≤ 4611686018427387904 := by omega
  have HBL : Hid (Blk (w.setCell ⟨gx, 4, none⟩ (.int .i64 ((x.cnt : Int) + 1))) gx 42 [vs, vq, .bool false, .int .i64 (x.arm : Int), .int .i64 ((x.cnt + 1 : Nat) : Int), vc, vw]) := hb.set 4 (.int .i64 ((x.cnt : Int) + 1))
  have HBT := Hid.mk' (But.set1 w gx 4 (.int .i64 ((x.cnt : Int) + 1)))
  clear h hb hu
  obtain ⟨A, hA⟩ : ∃ A : Int, A = (x.arm : Int) := ⟨_, rfl⟩
  rw [← hA] at c3
  by_cases h0 : x.arm = 0
  · have e1 : (A == 1) = false := by simp [hA, h0]
    have e2 : ¬ (0 < A) := by omega
    have HA := Hid.mk' h0
    clear h0 hA ha hc
    go_enter Try.func55, Try.ntmps55
    go_wp2
    go_ret
    have h0 := HA.out
    refine ⟨by simp [h0], HFIN.out _ (x.cnt + 1) x.arm false HBT.out HBL.out rfl (by omega) (by simp [h0])⟩
  · have e2 : 0 < A := by omega
    obtain ⟨m, hm⟩ : ∃ m, x.arm = m + 1 := ⟨x.arm - 1, by omega⟩
    have hmi : A - 1 = (m : Int) := by omega
    have hmi2 : IntKind.i64.wrap (A - 1) = (m : Int) := by rw [hmi]; exact wrap64 _ (by omega) (by omega)
    by_cases h1 : m = 0
    · have e1 : (A == 1) = true := by simp [hA, hm, h1]
      have HB2 : Hid (Blk ((w.setCell ⟨gx, 4, none⟩ (.int .i64 ((x.cnt : Int) + 1))).setCell ⟨gx, 2, none⟩ (.bool true)) gx 42 [vs, vq, .bool true, .int .i64 (x.arm : Int), .int .i64 ((x.cnt + 1 : Nat) : Int), vc, vw]) := HBL.out.set 2 (.bool true)
      have HB3 : Hid (Blk (((w.setCell ⟨gx, 4, none⟩ (.int .i64 ((x.cnt : Int) + 1))).setCell ⟨gx, 2, none⟩ (.bool true)).setCell ⟨gx, 3, none⟩ (.int .i64 (m : Int))) gx 42 [vs, vq, .bool true, .int .i64 (m : Int), .int .i64 ((x.cnt + 1 : Nat) : Int), vc, vw]) := HB2.out.set 3 (.int .i64 (m : Int))
      have HT3 := Hid.mk' ((HBT.out.trans (But.set1 _ gx 2 (.bool true))).trans (But.set1 _ gx 3 (.int .i64 (m : Int))))
      have HM := Hid.mk' hm
      have HM1 := Hid.mk' h1
      clear h0 h1 hm hmi hA ha hc
      go_enter Try.func55, Try.ntmps55
      go_wp2
      go_ret
      have h1 := HM.out
      have h2 := HM1.out
      refine ⟨by simp [h1, h2], HFIN.out _ (x.cnt + 1) m true HT3.out HB3.out rfl (by omega) (by simp [h1, h2])⟩
    · have e1 : (A == 1) = false := by
        have : ¬ (A = 1) := by omega
        simpa using this
      have HB3 : Hid (Blk ((w.setCell ⟨gx, 4, none⟩ (.int .i64 ((x.cnt : Int) + 1))).setCell ⟨gx, 3, none⟩ (.int .i64 (m : Int))) gx 42 [vs, vq, .bool false, .int .i64 (m : Int), .int .i64 ((x.cnt + 1 : Nat) : Int), vc, vw]) := HBL.out.set 3 (.int .i64 (m : Int))
      have HT3 := Hid.mk' (HBT.out.trans (But.set1 _ gx 3 (.int .i64 (m : Int))))
      have HM := Hid.mk' hm
      have HM1 := Hid.mk' h1
      clear h0 h1 hm hmi hA ha hc
      go_enter Try.func55, Try.ntmps55
      go_wp2
      go_ret
      have h1 := HM.out
      have h2 := HM1.out
      refine ⟨by simp [h1, h2], HFIN.out _ (x.cnt + 1) m false HT3.out HB3.out rfl (by omega) (by simp [h1, h2])⟩
theorem rspend_any (h : Rd w ro gx x) (hc : x.cnt < 4611686018427387904) (ha : x.arm ≤ 9223372036854775807) :
    Calls Try.prog 35 #[.pointer (some ⟨gx, 0, none⟩)] w fun e w' => e = .returned (.bool (!x.off && !(x.arm == 1))) ∧ RdTo w ro gx (if x.off then x else x.acc) w' := by
  have HD := Hid.mk' h
  have HAC := Hid.mk' (fun hu => raccess_any h hu hc ha)
  obtain ⟨vs, vq, vc, vw, h⟩ := h
  have c2 : w.cell? ⟨gx, 2, none⟩ = some (.bool x.off) := h.blk.cell 2
  clear h
  cases hu : x.off with
  | false =>
    rw [hu] at c2
    have HA2 := Hid.mk' (HAC.out hu)
    clear hu HAC
    generalize (x.arm == 1) = q at *
    go_enter Try.func35, Try.ntmps35
    go_wp2_with fail
    refine Calls.mono HA2.out ?_
    rintro e w' ⟨rfl, hto⟩
    have HTO := Hid.mk' hto
    clear hto
    go_wp2
    go_ret
    exact ⟨by simp, HTO.out⟩
  | true =>
    rw [hu] at c2
    clear HAC hu
    go_enter Try.func35, Try.ntmps35
    go_wp2
    go_ret
    exact ⟨by simp, by simpa using HD.out.same (But.refl _ _)⟩
theorem rcrash_any (h : Rd w ro gx x) : Calls Try.prog 37 #[.pointer (some ⟨gx, 0, none⟩)] w fun e w' => e = .returned (.tuple #[]) ∧ RdTo w ro gx { x with off := true, arm := 0 } w' := by
  obtain ⟨vs, vq, vc, vw, h⟩ := h
  have hb := h.blk
  have f3 : w.frozen? ⟨gx, 3, none⟩ = false := hb.free 3
  have f2 : w.frozen? ⟨gx, 2, none⟩ = false := hb.free 2
  have c3 : w.cell? ⟨gx, 3, none⟩ = some (.int .i64 (x.arm : Int)) := hb.cell 3
  have c2 : w.cell? ⟨gx, 2, none⟩ = some (.bool x.off) := hb.cell 2
  have HFIN : Hid (RdTo w ro gx { x with off := true, arm := 0 } ((w.setCell ⟨gx, 2, none⟩ (.bool true)).setCell ⟨gx, 3, none⟩ (.int .i64 0))) :=
    h.scalTo ((But.set1 _ _ _ _).trans (But.set1 _ _ _ _)) ((hb.set 2 (.bool true)).set 3 (.int .i64 0))
  clear h hb
  go_enter Try.func37, Try.ntmps37
  go_wp2
  go_end0
  exact ⟨rfl, HFIN.out⟩
theorem rarm_any (h : Rd w ro gx x) (y : Int) : Calls Try.prog 36 #[.pointer (some ⟨gx, 0, none⟩), .int .i64 y] w fun e w' => e = .returned (.tuple #[]) ∧ RdTo w ro gx (if x.off then x else { x with arm := y.toNat }) w' := by
  have HS := Hid.mk' h
  obtain ⟨vs, vq, vc, vw, h⟩ := h
  have hb := h.blk
  have f3 : w.frozen? ⟨gx, 3, none⟩ = false := hb.free 3
  have c3 : w.cell? ⟨gx, 3, none⟩ = some (.int .i64 (x.arm : Int)) := hb.cell 3
  have c2 : w.cell? ⟨gx, 2, none⟩ = some (.bool x.off) := hb.cell 2
  cases hu : x.off with
  | true =>
    rw [hu] at c2
    clear h hb hu
    go_enter Try.func36, Try.ntmps36
    go_wp2
    go_end0
    exact ⟨rfl, by simpa using HS.out.same (But.refl _ _)⟩
  | false =>
    have HFIN : Hid (∀ z : Int, z = (y.toNat : Int) → RdTo w ro gx { x with off := false, arm := y.toNat } (w.setCell ⟨gx, 3, none⟩ (.int .i64 z))) := fun z hz => by
      rw [hu] at hb
      have h1 := hb.set 3 (.int .i64 z)
      rw [hz] at h1 ⊢
      exact h.scalTo (But.set1 _ _ _ _) h1
    rw [hu] at c2
    clear h hb hu
    by_cases hy : y < 0
    · have hy2 : ¬ (0 ≤ y) := by omega
      go_enter Try.func36, Try.ntmps36
      go_wp2
      go_end0
      exact ⟨rfl, by simpa using HFIN.out (max y 0) (by omega)⟩
    · have hy2 : 0 ≤ y := by omega
      go_enter Try.func36, Try.ntmps36
      go_wp2
      go_end0
      exact ⟨rfl, by simpa using HFIN.out (max y 0) (by omega)⟩
end
end Go.Proofs.Ytfgcbcopgikodaa
/- The reference: Now, Read. -/
namespace Go.Proofs.Ytfgcbcopgikodaa
open Go.RowKit

theorem lastOf_next {wt : List WrE} {i b : Nat} {d : List Nat} (hi : i < wt.length) : lastOf (wt.take (i + 1)) b d = if (wt.getD i d0).1 = b then (wt.getD i d0).2 else lastOf (wt.take i) b d := by
  unfold lastOf
  rw [List.take_succ_eq_append_getElem hi, List.foldl_append, List.getD_eq_getElem?_getD, List.getElem?_eq_getElem hi]
  rfl
section
variable {w : World} {ro : Owner} {gx : Nat} {x : Rdv} {vs vq vc vw v : Value} {st : List (List Nat)} {wt : List WrE} {t : Tag}
theorem StR.at (h : StR w ro vs st) {b : Nat} (hb : b < st.length) : ∃ g c u, vs = .slice (some ⟨g, 0, none⟩) st.length c ∧ ro g = .sto ∧ w.cell? ⟨g, b, none⟩ = some u ∧ Ow w 0 u (st.getD b []) ∧ ∀ k, u.ownBlock = some k → ro k = .row b := by
  obtain ⟨L, rfl, h2, h3⟩ := h.ex
  rw [List.length_map] at hb
  obtain ⟨ao, c, e, h4⟩ := h2.shape
  obtain ⟨g, rfl, h5, -, h6⟩ := h4 (by omega)
  obtain ⟨h7, h8⟩ := h3 b L[b] (List.getElem?_eq_getElem hb)
  refine ⟨g, c, L[b].1, by rw [e, List.length_map], h5, h6 b _ (by rw [List.getElem?_map, List.getElem?_eq_getElem hb]; rfl), ?_, h8⟩
  rw [List.getD_eq_getElem?_getD, List.getElem?_map, List.getElem?_eq_getElem hb]
  exact h7
theorem WtR.at (h : WtR w ro t v wt) {i : Nat} (hi : i < wt.length) : ∃ g c u, v = .slice (some ⟨g, 0, none⟩) wt.length c ∧ ro g = t ∧ w.cell? ⟨g, i * 2, none⟩ = some (.int .i64 ((wt.getD i d0).1 : Int)) ∧ w.cell? ⟨g, i * 2 + 1, none⟩ = some u ∧ Bf w (Is ro .pic) u (wt.getD i d0).2 := by
  obtain ⟨L, rfl, h2, h3⟩ := h.ex
  rw [List.length_map] at hi
  obtain ⟨ao, c, e, h4⟩ := h2.shape
  obtain ⟨g, rfl, h5, -, h6⟩ := h4 (by omega)
  have h7 := h3 L[i] (List.getElem_mem hi)
  have h8 : (L.map (·.1)).getD i d0 = L[i].1 := by rw [List.getD_eq_getElem?_getD, List.getElem?_map, List.getElem?_eq_getElem hi]; rfl
  rw [h8]
  exact ⟨g, c, L[i].2, by rw [e, List.length_map], h5, h6 (i * 2) _ (flat_at L (fun e _ => tlc_len e) i L[i] 0 _ (List.getElem?_eq_getElem hi) rfl), h6 (i * 2 + 1) _ (flat_at L (fun e _ => tlc_len e) i L[i] 1 _ (List.getElem?_eq_getElem hi) rfl), h7⟩
set_option maxRecDepth 100000 in
theorem rnow_any (h : Rd w ro gx x) {b : Nat} (hb : b < x.st.length) (hm : x.wt.length ≤ 100000) :
    Calls Try.prog 46 #[.pointer (some ⟨gx, 0, none⟩), .int .i64 (b : Int)] w fun e w' => ∃ v, e = .returned v ∧ Ow w' w.heap.size v (x.now b) ∧ Grow w w' := by
  have HWF := Hid.mk' (h.ok.now hb)
  obtain ⟨vs, vq, vc, vw, h⟩ := h
  have HH := Hid.mk' h
  obtain ⟨g0, k0, u0, rfl, -, hc0, hu0, -⟩ := h.sto.at hb
  obtain ⟨ag, kg, rfl⟩ := h.wai.len
  have HU0 := Hid.mk' hu0.bs
  have hbi : (b : Int) < (x.st.length : Int) := by omega
  obtain ⟨n, hn⟩ : ∃ n, n = x.st.length := ⟨_, rfl⟩
  have c0 : w.cell? ⟨gx, 0, none⟩ = some (.slice (some ⟨g0, 0, none⟩) n k0) := by rw [hn]; exact h.blk.cell 0
  rw [← hn] at hbi
  obtain ⟨m, hme⟩ : ∃ m, m = x.wt.length := ⟨_, rfl⟩
  have c1 : w.cell? ⟨gx, 1, none⟩ = some (.slice ag m kg) := by rw [hme]; exact h.blk.cell 1
  have HME := Hid.mk' hme
  have hmb : (m : Int) ≤ 100000 := by omega
  clear h hu0 hb hn hme hm
  go_enter Try.func46, Try.ntmps46
  go_wp2
  clear c0 hc0
  go_loopw [5, 6] (fun bv iv wr => ∃ (i : Nat) (v : Value), i ≤ m ∧ iv = .int .i64 i ∧ v = bv ∧ Bs wr v (lastOf (x.wt.take i) b (x.st.getD b [])) ∧ wr = w) (fun _ iv _ => m - (intOf iv).toNat)
  case atStart => exact ⟨0, _, Nat.zero_le _, rfl, rfl, HU0.out, rfl⟩
  case round =>
    rename_i bv
    obtain ⟨i, v, him, rfl, rfl, hB, rfl⟩ := hrel
    by_cases hlt : i < m
    · have hlti : (i : Int) < (m : Int) := by omega
      have hiw : i < x.wt.length := by rw [← HME.out]; exact hlt
      obtain ⟨g1, k1, u1, e1, -, h1, h2, h3⟩ := HH.out.wai.at hiw
      simp only [Value.slice.injEq] at e1
      obtain ⟨rfl, -, rfl⟩ := e1
      have HNX := Hid.mk' (lastOf_next (b := b) (d := x.st.getD b []) hiw)
      have HB := Hid.mk' hB
      have HU1 := Hid.mk' h3.1
      obtain ⟨q, hq⟩ : ∃ q, q = (x.wt.getD i d0).1 := ⟨_, rfl⟩
      rw [← hq] at h1
      have HQ := Hid.mk' hq
      clear hB h3 hq hiw
      by_cases hqb : q = b
      · have hqi : ((q : Int) == (b : Int)) = true := by simp [hqb]
        have HN2 : Hid (lastOf (x.wt.take (i + 1)) b (x.st.getD b []) = (x.wt.getD i d0).2) := by show _ = _; rw [HNX.out, ← HQ.out, if_pos hqb]
        clear hqb
        go_wp2
        exact ⟨⟨i + 1, _, by omega, by go_num, rfl, by rw [HN2.out]; exact HU1.out, by first | rfl | trivial⟩, by simp [intOf]; omega⟩
      · have hqi : ((q : Int) == (b : Int)) = false := by
          have : ¬ (q : Int) = (b : Int) := by omega
          simpa using this
        have HN2 : Hid (lastOf (x.wt.take (i + 1)) b (x.st.getD b []) = lastOf (x.wt.take i) b (x.st.getD b [])) := by show _ = _; rw [HNX.out, ← HQ.out, if_neg hqb]
        clear hqb
        go_wp2
        exact ⟨⟨i + 1, _, by omega, by go_num, rfl, by rw [HN2.out]; exact HB.out, by first | rfl | trivial⟩, by simp [intOf]; omega⟩
    · have hlti : ¬ ((i : Int) < (m : Int)) := by omega
      have HFN : Hid (Bs wr v (x.now b)) := by
        show Bs _ _ _
        rw [List.take_of_length_le (by have := HME.out; omega)] at hB
        exact hB
      have HCP := Hid.mk' (copy_any HFN.out (by rw [HWF.out.1]; omega))
      clear hB
      go_wp2_with fail
      refine Calls.mono HCP.out ?_
      rintro e w' ⟨v', rfl, h1, h2⟩
      have H1 := Hid.mk' h1
      have H2 : Hid (Grow wr w') := But.of h2
      clear h1 h2
      go_wp2
      go_ret
      exact ⟨_, rfl, H1.out, H2.out⟩
theorem rread_off (h : Rd w ro gx x) (hu : x.off = true) (y : Int) :
    Calls Try.prog 30 #[.pointer (some ⟨gx, 0, none⟩), .int .i64 y] w fun e w' => e = .returned (.tuple #[.slice none 0 0, .int .i64 7]) ∧ w' = w := by
  obtain ⟨vs, vq, vc, vw, h⟩ := h
  have c2 : w.cell? ⟨gx, 2, none⟩ = some (.bool x.off) := h.blk.cell 2
  rw [hu] at c2
  clear h hu
  go_enter Try.func30, Try.ntmps30
  go_wp2
  exact bodyPost_ret (results_tmp2 rfl _ _ _) rfl ⟨rfl, rfl⟩
theorem rread_arg (h : Rd w ro gx x) (hu : x.off = false) (y : Int) (hy : ¬ (0 ≤ y ∧ y < (x.st.length : Int))) :
    Calls Try.prog 30 #[.pointer (some ⟨gx, 0, none⟩), .int .i64 y] w fun e w' => e = .returned (.tuple #[.slice none 0 0, .int .i64 1]) ∧ w' = w := by
  have HHA := Hid.mk' (rhas_any h y)
  rw [decide_eq_false hy] at HHA
  obtain ⟨vs, vq, vc, vw, h⟩ := h
  have c2 : w.cell? ⟨gx, 2, none⟩ = some (.bool x.off) := h.blk.cell 2
  rw [hu] at c2
  clear h hu hy
  go_enter Try.func30, Try.ntmps30
  go_wp2_with fail
  refine Calls.mono HHA.out ?_
  rintro e w' ⟨rfl, rfl⟩
  go_wp2
  exact bodyPost_ret (results_tmp2 rfl _ _ _) rfl ⟨rfl, rfl⟩
theorem rread_any (h : Rd w ro gx x) (hu : x.off = false) {b : Nat} (hb : b < x.st.length) (hm : x.wt.length ≤ 100000) :
    Calls Try.prog 30 #[.pointer (some ⟨gx, 0, none⟩), .int .i64 (b : Int)] w fun e w' => ∃ v, e = .returned (.tuple #[v, .int .i64 0]) ∧ Ow w' w.heap.size v (x.now b) ∧ Grow w w' := by
  have HHA := Hid.mk' (rhas_any h (b : Int))
  rw [decide_eq_true (by omega : (0 : Int) ≤ (b : Int) ∧ (b : Int) < (x.st.length : Int))] at HHA
  have HNO := Hid.mk' (rnow_any h hb hm)
  obtain ⟨vs, vq, vc, vw, h⟩ := h
  have c2 : w.cell? ⟨gx, 2, none⟩ = some (.bool x.off) := h.blk.cell 2
  rw [hu] at c2
  clear h hu hb hm
  go_enter Try.func30, Try.ntmps30
  go_wp2_with fail
  refine Calls.mono HHA.out ?_
  rintro e w' ⟨rfl, rfl⟩
  go_wp2_with fail
  refine Calls.mono HNO.out ?_
  rintro e w1 ⟨v, rfl, h1, h2⟩
  have H1 := Hid.mk' h1
  have H2 := Hid.mk' h2
  clear h1 h2
  go_wp2
  exact bodyPost_ret (results_tmp2 rfl _ _ _) rfl ⟨v, rfl, H1.out, H2.out⟩
end
end Go.Proofs.Ytfgcbcopgikodaa
/- The reference: Write. -/
namespace Go.Proofs.Ytfgcbcopgikodaa
open Go.RowKit

theorem tagV_other {own : Owner} {v : Value} {t : Tag} {k : Nat} (h : v.ownBlock ≠ some k) : tagV own v t k = own k := by
  unfold tagV
  cases hv : v.ownBlock with
  | none => rfl
  | some g =>
    show tagAt own g t k = own k
    unfold tagAt
    rw [if_neg (fun e => h (by rw [hv, e]))]
section
variable {w w' : World} {ro ro' : Owner} {gx : Nat} {x : Rdv} {vs vq vc vw v v' u : Value} {t : Tag}
/-- The tags behind an append of new bytes u to the row v. -/
theorem tags2 (h : Top w ro) (hs : w.heap.size ≤ w'.heap.size) (hv : ∀ k, v.ownBlock = some k → ro k = t) (hvl : ∀ k, v.ownBlock = some k → k < w.heap.size) (ha : ∀ k, v'.ownBlock = some k → v.ownBlock = some k ∨ (w.heap.size ≤ k ∧ u.ownBlock ≠ some k)) (hl : ∀ k, v'.ownBlock = some k → k < w'.heap.size) (hu : ∀ k, u.ownBlock = some k → w.heap.size ≤ k ∧ k < w'.heap.size) :
    ∃ ro', Ext ro ro' ∧ Fresh w ro ro' ∧ Top w' ro' ∧ (∀ k, v'.ownBlock = some k → ro' k = t) ∧ (∀ k, u.ownBlock = some k → ro' k = .pic) := by
  have f1 : Fresh w ro (tagV ro u .pic) := (Fresh.refl w ro).tagV (fun k hk => .inl (hu k hk).1)
  have e1 : Ext ro (tagV ro u .pic) := Ext.tagV (fun k hk => .inl (h k (hu k hk).1))
  have t1 : Top w' (tagV ro u .pic) := (h.grow hs).tagV (fun k hk => (hu k hk).2)
  have hne : ∀ k, v'.ownBlock = some k → u.ownBlock ≠ some k := fun k hk => by
    rcases ha k hk with h1 | ⟨-, h1⟩
    · intro h2; have := hvl k h1; have := (hu k h2).1; omega
    · exact h1
  refine ⟨tagV (tagV ro u .pic) v' t, e1.trans (Ext.tagV (fun k hk => ?_)), f1.tagV (fun k hk => (ha k hk).elim (fun e => .inr (hv k e)) (fun e => .inl e.1)), t1.tagV hl, fun k hk => tagV_own hk, fun k hk => ?_⟩
  · rw [tagV_other (hne k hk)]
    exact (ha k hk).elim (fun e => .inr (hv k e)) (fun e => .inl (h k e.1))
  · rw [tagV_other (fun e => hne k e hk), tagV_own hk]
theorem WtR.add {L : List TlE} {e : TlE} (hrow : RowOf w (Is ro t) 58 2 v L.length (L.flatMap tlc)) (hel : ∀ e ∈ L, Bf w (Is ro .pic) e.2 e.1.2) (k : But (fun b => v.ownBlock = some b ∨ b = gx) w w') (hgx : ro gx = .dev) (htp : t ≠ .pic) (hE : Ext ro ro') (hrow' : w'.ownsRow 0 58 2 v' (L.length + 1) (L.flatMap tlc ++ tlc e)) (hin : ∀ k, v'.ownBlock = some k → ro' k = t) (he : Bf w' (Is ro' .pic) e.2 e.1.2) : WtR w' ro' t v' (L.map (·.1) ++ [e.1]) := by
  refine ⟨L ++ [e], by rw [List.map_append]; rfl, ⟨?_, hin⟩, fun f hf => ?_⟩
  · rw [List.length_append, List.length_singleton, List.flatMap_append, show ([e] : List TlE).flatMap tlc = tlc e by simp]
    exact hrow'
  · rcases List.mem_append.1 hf with hf | hf
    · have h1 := (hel f hf).but k (fun j hj hh => by
        have hj : ro j = .pic := hj
        rcases hh with hh | hh
        · exact htp ((show ro j = t from hrow.inF j hh).symm.trans hj)
        · rw [hh, hgx] at hj; cases hj)
      exact ⟨h1.1, fun h0 j hj => hE.is (by decide) j (h1.2 h0 j hj)⟩
    · rw [show f = e by simpa using hf]; exact he
theorem RdM.addQ (h : RdM w ro gx x vs vq vc vw) {L : List TlE} (hL : L.map (·.1) = x.wt) (hrow : RowOf w (Is ro .map) 58 2 vq L.length (L.flatMap tlc)) (hel : ∀ e ∈ L, Bf w (Is ro .pic) e.2 e.1.2) {e : TlE} (k : But (fun b => vq.ownBlock = some b ∨ b = gx) w w') (hrow' : w'.ownsRow 0 58 2 v' (L.length + 1) (L.flatMap tlc ++ tlc e)) (ha : ∀ k, v'.ownBlock = some k → vq.ownBlock = some k ∨ (w.heap.size ≤ k ∧ e.2.ownBlock ≠ some k)) (hl : ∀ k, v'.ownBlock = some k → k < w'.heap.size) (hu : Ow w' w.heap.size e.2 e.1.2) (hw : e.1.1 < x.st.length ∧ wf256 e.1.2) (hb : Blk w' gx 42 [vs, v', .bool x.off, .int .i64 (x.arm : Int), .int .i64 (x.cnt : Int), vc, vw]) :
    RdTo w ro gx { x with wt := x.wt ++ [e.1] } w' := by
  obtain ⟨ro', h1, h2, h3, h4, h5⟩ := tags2 (u := e.2) h.top k.size (fun k hk => hrow.inF k hk) (fun k hk => h.top.lt (by rw [show ro k = _ from hrow.inF k hk]; decide)) ha hl (fun k hk => ⟨(hu.ge k hk).1, (hu.ge k hk).2⟩)
  have hR : ∀ {t : Tag}, t ≠ .map → t ≠ .dev → ∀ b, ro b = t → ¬ (vq.ownBlock = some b ∨ b = gx) := fun q2 q3 b hb hh => by
    rcases hh with hh | hh
    · exact q2 (hb.symm.trans (hrow.inF b hh))
    · exact q3 (hb.symm.trans (by rw [hh]; exact h.tag))
  refine ⟨k.mono (fun b _ hh => ?_), ro', h2, vs, v', vc, vw, h3, h1.is (by decide) gx h.tag, hb, h.sto.but k (fun j hj => hj.elim (hR (by decide) (by decide) j) (fun ⟨b, hb⟩ => hR (t := .row b) (by simp) (by simp) j hb)) h1, ?_, h.cop.but k (fun j hj => hj.elim (hR (by decide) (by decide) j) (hR (by decide) (by decide) j)) h1, h.wri.but (by decide) k (fun j hj => hj.elim (hR (by decide) (by decide) j) (hR (by decide) (by decide) j)) h1, ⟨h.ok.n1, h.ok.nb, h.ok.st, ?_, h.ok.wr, h.ok.im⟩⟩
  · rcases hh with hh | hh
    · rw [show ro b = _ from hrow.inF b hh]; decide
    · rw [hh, h.tag]; decide
  · show WtR w' ro' .map v' (x.wt ++ [e.1])
    rw [← hL]
    exact WtR.add hrow hel k h.tag (by decide) h1 hrow' h4 ⟨hu.bs, fun _ j hj => h5 j hj⟩
  · intro f hf
    rcases List.mem_append.1 hf with hf | hf
    · exact h.ok.wt f hf
    · rw [show f = e.1 by simpa using hf]; exact hw
theorem RdM.addR (h : RdM w ro gx x vs vq vc vw) {L : List TlE} (hL : L.map (·.1) = x.wr) (hrow : RowOf w (Is ro .wri) 58 2 vw L.length (L.flatMap tlc)) (hel : ∀ e ∈ L, Bf w (Is ro .pic) e.2 e.1.2) {e : TlE} (k : But (fun b => vw.ownBlock = some b ∨ b = gx) w w') (hrow' : w'.ownsRow 0 58 2 v' (L.length + 1) (L.flatMap tlc ++ tlc e)) (ha : ∀ k, v'.ownBlock = some k → vw.ownBlock = some k ∨ (w.heap.size ≤ k ∧ e.2.ownBlock ≠ some k)) (hl : ∀ k, v'.ownBlock = some k → k < w'.heap.size) (hu : Ow w' w.heap.size e.2 e.1.2) (hw : e.1.1 < x.st.length ∧ wf256 e.1.2) (hb : Blk w' gx 42 [vs, vq, .bool x.off, .int .i64 (x.arm : Int), .int .i64 (x.cnt : Int), vc, v']) :
    RdTo w ro gx { x with wr := x.wr ++ [e.1] } w' := by
  obtain ⟨ro', h1, h2, h3, h4, h5⟩ := tags2 (u := e.2) h.top k.size (fun k hk => hrow.inF k hk) (fun k hk => h.top.lt (by rw [show ro k = _ from hrow.inF k hk]; decide)) ha hl (fun k hk => ⟨(hu.ge k hk).1, (hu.ge k hk).2⟩)
  have hR : ∀ {t : Tag}, t ≠ .wri → t ≠ .dev → ∀ b, ro b = t → ¬ (vw.ownBlock = some b ∨ b = gx) := fun q2 q3 b hb hh => by
    rcases hh with hh | hh
    · exact q2 (hb.symm.trans (hrow.inF b hh))
    · exact q3 (hb.symm.trans (by rw [hh]; exact h.tag))
  refine ⟨k.mono (fun b _ hh => ?_), ro', h2, vs, vq, vc, v', h3, h1.is (by decide) gx h.tag, hb, h.sto.but k (fun j hj => hj.elim (hR (by decide) (by decide) j) (fun ⟨b, hb⟩ => hR (t := .row b) (by simp) (by simp) j hb)) h1, h.wai.but (by decide) k (fun j hj => hj.elim (hR (by decide) (by decide) j) (hR (by decide) (by decide) j)) h1, h.cop.but k (fun j hj => hj.elim (hR (by decide) (by decide) j) (hR (by decide) (by decide) j)) h1, ?_, ⟨h.ok.n1, h.ok.nb, h.ok.st, h.ok.wt, ?_, h.ok.im⟩⟩
  · rcases hh with hh | hh
    · rw [show ro b = _ from hrow.inF b hh]; decide
    · rw [hh, h.tag]; decide
  · show WtR w' ro' .wri v' (x.wr ++ [e.1])
    rw [← hL]
    exact WtR.add hrow hel k h.tag (by decide) h1 hrow' h4 ⟨hu.bs, fun _ j hj => h5 j hj⟩
  · intro f hf
    rcases List.mem_append.1 hf with hf | hf
    · exact h.ok.wr f hf
    · rw [show f = e.1 by simpa using hf]; exact hw
end
/-- The document's Write, where it may be. -/
def Rdv.write (x : Rdv) (b : Nat) (xs : List Nat) : Rdv := { x with wt := x.wt ++ [(b, xs)], wr := x.wr ++ [(b, xs)] }
section
variable {w : World} {ro : Owner} {gx : Nat} {x : Rdv}
theorem rwrite_off (h : Rd w ro gx x) (hu : x.off = true) (y : Int) (v : Value) :
    Calls Try.prog 32 #[.pointer (some ⟨gx, 0, none⟩), .int .i64 y, v] w fun e w' => e = .returned (.int .i64 7) ∧ w' = w := by
  obtain ⟨vs, vq, vc, vw, h⟩ := h
  have c2 : w.cell? ⟨gx, 2, none⟩ = some (.bool x.off) := h.blk.cell 2
  rw [hu] at c2
  clear h hu
  go_enter Try.func32, Try.ntmps32
  go_wp2
  go_ret
  exact ⟨rfl, rfl⟩
theorem rwrite_arg {v : Value} {xs : List Nat} (h : Rd w ro gx x) (hu : x.off = false) (y : Int) (hv : Bs w v xs) (hy : ¬ (0 ≤ y ∧ y < (x.st.length : Int)) ∨ xs.length ≠ 256) :
    Calls Try.prog 32 #[.pointer (some ⟨gx, 0, none⟩), .int .i64 y, v] w fun e w' => e = .returned (.int .i64 1) ∧ w' = w := by
  have HHA := Hid.mk' (rhas_any h y)
  obtain ⟨vs, vq, vc, vw, h⟩ := h
  have c2 : w.cell? ⟨gx, 2, none⟩ = some (.bool x.off) := h.blk.cell 2
  rw [hu] at c2
  obtain ⟨ao, cap, rfl, -⟩ := hv.gen
  by_cases hh : 0 ≤ y ∧ y < (x.st.length : Int)
  · rw [decide_eq_true hh] at HHA
    have hn : ((xs.length : Int) == 256) = false := by
      have : ¬ ((xs.length : Int) = 256) := by
        rcases hy with hy | hy
        · exact absurd hh hy
        · omega
      simpa using this
    generalize xs.length = n at *
    clear h hu hh hy hv
    go_enter Try.func32, Try.ntmps32
    go_wp2_with fail
    refine Calls.mono HHA.out ?_
    rintro e w' ⟨rfl, rfl⟩
    go_wp2
    go_ret
    exact ⟨rfl, rfl⟩
  · rw [decide_eq_false hh] at HHA
    clear h hu hh hy hv
    go_enter Try.func32, Try.ntmps32
    go_wp2_with fail
    refine Calls.mono HHA.out ?_
    rintro e w' ⟨rfl, rfl⟩
    go_wp2
    go_ret
    exact ⟨rfl, rfl⟩
set_option maxRecDepth 100000 in
set_option maxHeartbeats 4000000 in
theorem rwrite_any {v : Value} {xs : List Nat} (h : Rd w ro gx x) (hu : x.off = false) {b : Nat} (hb : b < x.st.length) (hv : Bf w (Is ro .none) v xs) (hx : xs.length = 256) (hm : x.wt.length < 100000) (hm2 : x.wr.length < 100000) (hc : x.cnt < 4611686018427387904) (ha : x.arm ≤ 9223372036854775807) :
    Calls Try.prog 32 #[.pointer (some ⟨gx, 0, none⟩), .int .i64 (b : Int), v] w fun e w' => e = .returned (.int .i64 (if x.arm = 1 then 7 else 0)) ∧ RdTo w ro gx (x.write b xs).acc w' := by
  have HHA := Hid.mk' (rhas_any h (b : Int))
  rw [decide_eq_true (by omega : (0 : Int) ≤ (b : Int) ∧ (b : Int) < (x.st.length : Int))] at HHA
  have HACC : Hid (∀ w5, RdTo w ro gx (x.write b xs) w5 → Calls Try.prog 55 #[.pointer (some ⟨gx, 0, none⟩)] w5 fun e w' => e = .returned (.bool (!(x.arm == 1))) ∧ RdTo w ro gx (x.write b xs).acc w') := fun w5 h5 => by
    obtain ⟨ro5, f5, d5⟩ := h5.ex
    refine (raccess_any d5 hu hc ha).mono ?_
    rintro e w6 ⟨rfl, h6⟩
    exact ⟨rfl, h6.next h5.but f5⟩
  have HD := Hid.mk' h
  obtain ⟨ao, cap, rfl, -⟩ := hv.1.gen
  rw [hx] at hv ⊢
  have HV := Hid.mk' hv
  have HX := Hid.mk' hx
  have HWB : Hid (b < x.st.length ∧ wf256 xs) := ⟨hb, hx, hv.1.1⟩
  have HQ := Hid.mk' hm
  have HW := Hid.mk' hm2
  obtain ⟨vs, vq, vc, vw, h⟩ := h
  have c2 : w.cell? ⟨gx, 2, none⟩ = some (.bool x.off) := h.blk.cell 2
  rw [hu] at c2
  clear h hu hb hv hx hm hm2 hc ha vs vq vc vw
  go_enter Try.func32, Try.ntmps32
  go_wp2_with fail
  refine Calls.mono HHA.out ?_
  rintro e w ⟨rfl, rfl⟩
  go_upto_region 5 with fail
  clear c2 HHA
  have h := HD.out
  clear HD
  obtain ⟨vs, vq, vc, vw, h⟩ := h
  have HH := Hid.mk' h
  obtain ⟨L, hL, hr, hel⟩ := h.wai.ex
  obtain ⟨aq, cq, e, -⟩ := hr.shape
  subst e
  obtain ⟨m, hme⟩ : ∃ m, m = L.length := ⟨_, rfl⟩
  have HME := Hid.mk' hme
  have HMB : Hid (m < 100000) := by
    show m < 100000
    rw [hme, ← List.length_map (f := fun e : TlE => e.1), hL]
    exact HQ.out
  have HL := Hid.mk' hL
  have HR := Hid.mk' hr
  have HEL := Hid.mk' hel
  have hblk := h.blk
  rw [← hme] at hblk
  have HBK := Hid.mk' hblk
  have HRO : Hid (w.ownsRow 0 58 2 (.slice aq m cq) m (L.flatMap tlc)) := by rw [hme]; exact hr.own
  have HVE : Hid (¬ (.slice aq m cq : Value).ownBlock = some gx) := fun e => by
    have h1 : ro gx = .map := HR.out.inF gx (by rw [HME.out] at e; exact e)
    rw [HH.out.tag] at h1; cases h1
  have HVL : Hid (∀ k, (.slice aq m cq : Value).ownBlock = some k → k < w.heap.size) := fun k hk => (HRO.out.lt k hk).2
  clear h hL hr hel hme hblk
  go_upto_region 5 with fail
  refine region_chain [([0, 1, 2, 3, 4, 5, 6], 7), ([8], 9), ([], 10), ([11, 12], 13)] [] (But (fun k => (.slice aq m cq : Value).ownBlock = some k) w) (Grow w) (by kernel_rfl) (by kernel_rfl) (fun _ _ h k => h.trans k) (fun _ h => h.mono (fun _ _ h => h.elim)) ((But.refl _ w).drew) ?_
  intro ι hne X hX
  have c1 : ∀ x, (X x).cell? ⟨gx, 1, none⟩ = some (.slice aq m cq) := fun x => (HBK.out.but (hX x) HVE.out).cell 1
  iterate 7 (refine still_step rfl (fun K hK => ?_); go_simp; refine hK _ ?_; clear hK K)
  refine still_nil ?_
  clear c1 hX hne
  refine turn_call rfl rfl (fun u w' => Grow w w' ∧ Ow w' w.heap.size u xs) (fun _ => But (fun k => (.slice aq m cq : Value).ownBlock = some k) w) (fun u w1 w2 h k => ⟨h.1.trans k, h.2.but k (fun _ _ _ h => h)⟩) (fun u w1 h => h.1.mono (fun _ _ h => h.elim)) (.inr (fun _ _ h => h)) 31 #[.slice ao 256 cap] (fun _ => by kernel_rfl) ?_ ?_
  · intro w4 h4
    refine (copy_any (HV.out.1.but h4 (fun _ _ _ h => h)) (by rw [HX.out]; omega)).mono ?_
    rintro e w5 ⟨u, rfl, h5, h6⟩
    exact ⟨u, rfl, h4.trans (But.of h6), h5.mono h4.size⟩
  rintro u ⟨wq, -, hu⟩ Y hY
  obtain ⟨ua, un, uc, rfl⟩ := hu.bs.sl
  clear hu wq
  go_simp
  refine hY _ ?_
  clear hY Y
  intro ι hne X hX
  refine still_val rfl (.agg #[.int .i64 (b : Int), .slice ua un uc]) rfl (fun x => exec_build _ [_, _] rfl [(0, .int .i64 (b : Int)), (1, .slice ua un uc)] rfl _ (built_wr (b : Int) ua un uc _)) ?_
  intro K hK; go_simp; refine hK _ ?_; clear hK K
  refine still_nil ?_
  clear hX hne
  refine turn_run rfl rfl (fun u w' => (Grow w w' ∧ Ow w' w.heap.size (.slice ua un uc) xs) ∧ ∃ g, u = .slice (some ⟨g, 0, none⟩) 1 1 ∧ Blk w' g 58 [.int .i64 (b : Int), .slice ua un uc]) (fun _ => But (fun k => (.slice aq m cq : Value).ownBlock = some k) w) ?_ (fun _ _ h => h.1.1.mono (fun _ _ h => h.elim)) (.inr (fun _ _ h => h)) ?_ ?_
  · rintro u w4 w5 ⟨⟨h1, h2⟩, g, h3, h4⟩ k
    exact ⟨⟨h1.trans k, h2.but k (fun _ _ _ h => h)⟩, g, h3, h4.but k (fun h => h)⟩
  · rintro w4 ⟨h4, h5⟩
    refine turn_row1 (v := .agg #[.int .i64 (b : Int), .slice ua un uc]) Try.underlying37 zeroWr (by decide) (by decide) rfl rfl rfl ⟨⟨h4.trans ((But.refl _ w4).alloc _), h5.but ((But.refl (fun _ => False) w4).alloc _) (fun _ _ _ h => h)⟩, _, rfl, ?_⟩
    exact Blk.new (L := [.int .i64 (b : Int), .slice ua un uc]) rfl
  rintro u ⟨wq, -, gn, rfl, -⟩ Y hY
  clear wq
  go_simp
  refine hY _ ?_
  clear hY Y
  intro ι hne X hX
  refine still_nil ?_
  clear hX hne
  refine turn_run rfl rfl (fun u w' => But (fun k => (.slice aq m cq : Value).ownBlock = some k) w w' ∧ Ow w' w.heap.size (.slice ua un uc) xs ∧ w'.ownsRow 0 58 2 u (m + 1) (L.flatMap tlc ++ tlc ((b, xs), .slice ua un uc)) ∧ (∀ k, u.ownBlock = some k → (.slice aq m cq : Value).ownBlock = some k ∨ (w.heap.size ≤ k ∧ (.slice ua un uc : Value).ownBlock ≠ some k)) ∧ (∀ k, u.ownBlock = some k → k < w'.heap.size)) (fun _ => But (fun k => (.slice aq m cq : Value).ownBlock = some k) w) ?_ (fun _ _ h => h.1) (.inr (fun _ _ h => h)) ?_ ?_
  · rintro u w4 w5 ⟨h1, h2, h3, h4, h5⟩ k
    exact ⟨h1.trans (k.mono (fun _ _ h => h.elim)), h2.but k (fun _ _ _ h => h), ownsRow_grow h3 k, h4, fun j hj => Nat.lt_of_lt_of_le (h5 j hj) k.size⟩
  · rintro w4 ⟨⟨h1, h2⟩, g', e9, h3⟩
    cases e9
    refine turn_append (v := .slice aq m cq) (n := m) (xs := L.flatMap tlc) (news := [.int .i64 (b : Int), .slice ua un uc]) Try.underlying37 zeroWr rfl (by decide) rfl rfl (ownsRow_grow HRO.out h1) rfl rfl (fun j u hj => h3.cells0 j u hj) (fun u hu => by
      rcases List.mem_cons.1 hu with rfl | hu
      · rfl
      · rw [show u = .slice ua un uc by simpa using hu]; rfl) (by have := HMB.out; omega) (by decide) ?_
    intro v' w5 hap
    refine ⟨(h1.mono (fun _ _ h => h.elim)).trans hap.but, h2.but hap.but (fun j hj _ e => by have := HVL.out j e; have := (h2.ge j hj).1; omega), hap.own, fun j hj => ?_, hap.lt⟩
    rcases hap.at' with e | e
    · exact .inl (by rw [← e]; exact hj)
    · rw [e] at hj
      cases hj
      refine .inr ⟨h1.size, fun e2 => ?_⟩
      have := (h2.ge _ e2).2
      omega
  rintro v2 ⟨wq, -, -, hov, -⟩ Y hY
  have HV2 : Hid (v2.oneCell' = true) := ownsRow_one hov
  clear hov wq
  go_simp
  refine hY _ ?_
  clear hY Y
  intro ι hne X hX
  iterate 2 (refine still_step rfl (fun K hK => ?_); go_simp; refine hK _ ?_; clear hK K)
  refine still_nil ?_
  clear hX hne
  refine turn_run rfl rfl (fun _ w' => RdTo w ro gx { x with wt := x.wt ++ [(b, xs)] } w') (fun _ _ => True) (fun _ _ _ h k => h.grow k) (fun _ _ _ => trivial) (.inl (by kernel_rfl)) ?_ ?_
  · rintro w4 ⟨h1, h2, h3, h4, h5⟩
    have hbk := HBK.out.but h1 HVE.out
    have hne2 : ¬ v2.ownBlock = some gx := fun e => by
      rcases h4 gx e with h | h
      · exact HVE.out h
      · have := HBK.out.lt; omega
    have hne3 : ¬ (.slice ua un uc : Value).ownBlock = some gx := fun e => by
      have := (h2.ge gx e).1
      have := HBK.out.lt
      omega
    refine turn_store (by kernel_rfl) rfl rfl rfl HV2.out hbk (by simp) ?_
    refine HH.out.addQ HL.out HR.out HEL.out (e := ((b, xs), .slice ua un uc)) (v' := v2) ?_ ?_ ?_ ?_ ?_ HWB.out (hbk.set 1 v2)
    · rw [← HME.out]
      exact (h1.mono (fun _ _ h => .inl h)).trans ((But.set1 _ _ _ _).mono (fun _ _ h => .inr h))
    · rw [← HME.out]
      exact ownsRow_but h3 (But.set1 _ _ _ _) (fun j hj e => hne2 (by rw [← e]; exact hj))
    · rw [← HME.out]; exact h4
    · intro j hj; have := h5 j hj; simpa using this
    · exact h2.but (But.set1 _ _ _ _) (fun j hj _ e => hne3 (by rw [← e]; exact hj))
  rintro v5 - Y hY
  go_simp
  refine hY _ ?_
  clear hY Y
  intro ι hne X hX
  refine still_nil ?_
  clear hX hne
  intro w1 hto
  obtain ⟨ro1, hf1, h1⟩ := hto.ex
  have HT1 := Hid.mk' hto.but
  have HF1 := Hid.mk' hf1
  have hv1 : Bf w1 (Is ro1 .none) (.slice ao 256 cap) xs := by
    have h2 := HV.out.but hto.but (fun j hj e => e hj)
    have h3 := HV.out.1.bf
    refine ⟨h2.1, fun h0 j hj => ?_⟩
    have h4 : ro j = .none := HV.out.2 h0 j hj
    have h5 : j < w.heap.size := h3.2 h0 j hj
    show ro1 j = .none
    by_cases hq : ro1 j = ro j
    · rw [hq, h4]
    · have := hf1 j hq; omega
  have HV1 := Hid.mk' hv1
  have HNX : Hid (∀ w2, RdTo w1 ro1 gx (x.write b xs) w2 → RdTo w ro gx (x.write b xs) w2) := fun w2 h2 => h2.next HT1.out HF1.out
  have HD := Hid.mk' h1
  clear hto hf1 h1 hv1 HV HT1 HF1 HH HL HR HEL HBK HRO HVE HVL HMB HME HV2
  have h := HD.out
  obtain ⟨z, hz⟩ : ∃ z : Rdv, z = { x with wt := x.wt ++ [(b, xs)] } := ⟨_, rfl⟩
  rw [← hz] at h
  have HWB2 : Hid (b < z.st.length ∧ wf256 xs) := by rw [hz]; exact HWB.out
  have HW2 : Hid (z.wr.length < 100000) := by rw [hz]; exact HW.out
  have HZ : Hid ({ z with wr := z.wr ++ [(b, xs)] } = x.write b xs) := by rw [hz]; rfl
  clear hz HD
  obtain ⟨vs, vq, vc, vw, h⟩ := h
  have HH := Hid.mk' h
  obtain ⟨L, hL, hr, hel⟩ := h.wri.ex
  obtain ⟨aq, cq, e, -⟩ := hr.shape
  subst e
  obtain ⟨m, hme⟩ : ∃ m, m = L.length := ⟨_, rfl⟩
  have HME := Hid.mk' hme
  have HMB : Hid (m < 100000) := by
    show m < 100000
    rw [hme, ← List.length_map (f := fun e : TlE => e.1), hL]
    exact HW2.out
  have HL := Hid.mk' hL
  have HR := Hid.mk' hr
  have HEL := Hid.mk' hel
  have hblk := h.blk
  rw [← hme] at hblk
  have HBK := Hid.mk' hblk
  have HRO : Hid (w1.ownsRow 0 58 2 (.slice aq m cq) m (L.flatMap tlc)) := by rw [hme]; exact hr.own
  have HVE : Hid (¬ (.slice aq m cq : Value).ownBlock = some gx) := fun e => by
    have h1 : ro1 gx = .wri := HR.out.inF gx (by rw [HME.out] at e; exact e)
    rw [HH.out.tag] at h1; cases h1
  have HVL : Hid (∀ k, (.slice aq m cq : Value).ownBlock = some k → k < w1.heap.size) := fun k hk => (HRO.out.lt k hk).2
  clear h hL hr hel hme hblk
  go_upto_region 6 with fail
  refine region_chain [([0, 1, 2, 3, 4, 5, 6], 7), ([8], 9), ([], 10), ([11, 12], 13)] [] (But (fun k => (.slice aq m cq : Value).ownBlock = some k) w1) (Grow w1) (by kernel_rfl) (by kernel_rfl) (fun _ _ h k => h.trans k) (fun _ h => h.mono (fun _ _ h => h.elim)) ((But.refl _ w1).drew) ?_
  intro ι hne X hX
  have c1 : ∀ x, (X x).cell? ⟨gx, 6, none⟩ = some (.slice aq m cq) := fun x => (HBK.out.but (hX x) HVE.out).cell 6
  iterate 7 (refine still_step rfl (fun K hK => ?_); go_simp; refine hK _ ?_; clear hK K)
  refine still_nil ?_
  clear c1 hX hne
  refine turn_call rfl rfl (fun u w' => Grow w1 w' ∧ Ow w' w1.heap.size u xs) (fun _ => But (fun k => (.slice aq m cq : Value).ownBlock = some k) w1) (fun u wa w2 h k => ⟨h.1.trans k, h.2.but k (fun _ _ _ h => h)⟩) (fun u wa h => h.1.mono (fun _ _ h => h.elim)) (.inr (fun _ _ h => h)) 31 #[.slice ao 256 cap] (fun _ => by kernel_rfl) ?_ ?_
  · intro w4 h4
    refine (copy_any (HV1.out.1.but h4 (fun _ _ _ h => h)) (by rw [HX.out]; omega)).mono ?_
    rintro e w5 ⟨u, rfl, h5, h6⟩
    exact ⟨u, rfl, h4.trans (But.of h6), h5.mono h4.size⟩
  rintro u ⟨wq, -, hu⟩ Y hY
  obtain ⟨ua, un, uc, rfl⟩ := hu.bs.sl
  clear hu wq
  go_simp
  refine hY _ ?_
  clear hY Y
  intro ι hne X hX
  refine still_val rfl (.agg #[.int .i64 (b : Int), .slice ua un uc]) rfl (fun x => exec_build _ [_, _] rfl [(0, .int .i64 (b : Int)), (1, .slice ua un uc)] rfl _ (built_wr (b : Int) ua un uc _)) ?_
  intro K hK; go_simp; refine hK _ ?_; clear hK K
  refine still_nil ?_
  clear hX hne
  refine turn_run rfl rfl (fun u w' => (Grow w1 w' ∧ Ow w' w1.heap.size (.slice ua un uc) xs) ∧ ∃ g, u = .slice (some ⟨g, 0, none⟩) 1 1 ∧ Blk w' g 58 [.int .i64 (b : Int), .slice ua un uc]) (fun _ => But (fun k => (.slice aq m cq : Value).ownBlock = some k) w1) ?_ (fun _ _ h => h.1.1.mono (fun _ _ h => h.elim)) (.inr (fun _ _ h => h)) ?_ ?_
  · rintro u w4 w5 ⟨⟨h1, h2⟩, g, h3, h4⟩ k
    exact ⟨⟨h1.trans k, h2.but k (fun _ _ _ h => h)⟩, g, h3, h4.but k (fun h => h)⟩
  · rintro w4 ⟨h4, h5⟩
    refine turn_row1 (v := .agg #[.int .i64 (b : Int), .slice ua un uc]) Try.underlying37 zeroWr (by decide) (by decide) rfl rfl rfl ⟨⟨h4.trans ((But.refl _ w4).alloc _), h5.but ((But.refl (fun _ => False) w4).alloc _) (fun _ _ _ h => h)⟩, _, rfl, ?_⟩
    exact Blk.new (L := [.int .i64 (b : Int), .slice ua un uc]) rfl
  rintro u ⟨wq, -, gn, rfl, -⟩ Y hY
  clear wq
  go_simp
  refine hY _ ?_
  clear hY Y
  intro ι hne X hX
  refine still_nil ?_
  clear hX hne
  refine turn_run rfl rfl (fun u w' => But (fun k => (.slice aq m cq : Value).ownBlock = some k) w1 w' ∧ Ow w' w1.heap.size (.slice ua un uc) xs ∧ w'.ownsRow 0 58 2 u (m + 1) (L.flatMap tlc ++ tlc ((b, xs), .slice ua un uc)) ∧ (∀ k, u.ownBlock = some k → (.slice aq m cq : Value).ownBlock = some k ∨ (w1.heap.size ≤ k ∧ (.slice ua un uc : Value).ownBlock ≠ some k)) ∧ (∀ k, u.ownBlock = some k → k < w'.heap.size)) (fun _ => But (fun k => (.slice aq m cq : Value).ownBlock = some k) w1) ?_ (fun _ _ h => h.1) (.inr (fun _ _ h => h)) ?_ ?_
  · rintro u w4 w5 ⟨h1, h2, h3, h4, h5⟩ k
    exact ⟨h1.trans (k.mono (fun _ _ h => h.elim)), h2.but k (fun _ _ _ h => h), ownsRow_grow h3 k, h4, fun j hj => Nat.lt_of_lt_of_le (h5 j hj) k.size⟩
  · rintro w4 ⟨⟨h1, h2⟩, g', e9, h3⟩
    cases e9
    refine turn_append (v := .slice aq m cq) (n := m) (xs := L.flatMap tlc) (news := [.int .i64 (b : Int), .slice ua un uc]) Try.underlying37 zeroWr rfl (by decide) rfl rfl (ownsRow_grow HRO.out h1) rfl rfl (fun j u hj => h3.cells0 j u hj) (fun u hu => by
      rcases List.mem_cons.1 hu with rfl | hu
      · rfl
      · rw [show u = .slice ua un uc by simpa using hu]; rfl) (by have := HMB.out; omega) (by decide) ?_
    intro v' w5 hap
    refine ⟨(h1.mono (fun _ _ h => h.elim)).trans hap.but, h2.but hap.but (fun j hj _ e => by have := HVL.out j e; have := (h2.ge j hj).1; omega), hap.own, fun j hj => ?_, hap.lt⟩
    rcases hap.at' with e | e
    · exact .inl (by rw [← e]; exact hj)
    · rw [e] at hj
      cases hj
      refine .inr ⟨h1.size, fun e2 => ?_⟩
      have := (h2.ge _ e2).2
      omega
  rintro v2 ⟨wq, -, -, hov, -⟩ Y hY
  have HV2 : Hid (v2.oneCell' = true) := ownsRow_one hov
  clear hov wq
  go_simp
  refine hY _ ?_
  clear hY Y
  intro ι hne X hX
  iterate 2 (refine still_step rfl (fun K hK => ?_); go_simp; refine hK _ ?_; clear hK K)
  refine still_nil ?_
  clear hX hne
  refine turn_run rfl rfl (fun _ w' => RdTo w1 ro1 gx { z with wr := z.wr ++ [(b, xs)] } w') (fun _ _ => True) (fun _ _ _ h k => h.grow k) (fun _ _ _ => trivial) (.inl (by kernel_rfl)) ?_ ?_
  · rintro w4 ⟨h1, h2, h3, h4, h5⟩
    have hbk := HBK.out.but h1 HVE.out
    have hne2 : ¬ v2.ownBlock = some gx := fun e => by
      rcases h4 gx e with h | h
      · exact HVE.out h
      · have := HBK.out.lt; omega
    have hne3 : ¬ (.slice ua un uc : Value).ownBlock = some gx := fun e => by
      have := (h2.ge gx e).1
      have := HBK.out.lt
      omega
    refine turn_store (by kernel_rfl) rfl rfl rfl HV2.out hbk (by simp) ?_
    refine HH.out.addR HL.out HR.out HEL.out (e := ((b, xs), .slice ua un uc)) (v' := v2) ?_ ?_ ?_ ?_ ?_ HWB2.out (hbk.set 6 v2)
    · rw [← HME.out]
      exact (h1.mono (fun _ _ h => .inl h)).trans ((But.set1 _ _ _ _).mono (fun _ _ h => .inr h))
    · rw [← HME.out]
      exact ownsRow_but h3 (But.set1 _ _ _ _) (fun j hj e => hne2 (by rw [← e]; exact hj))
    · rw [← HME.out]; exact h4
    · intro j hj; have := h5 j hj; simpa using this
    · exact h2.but (But.set1 _ _ _ _) (fun j hj _ e => hne3 (by rw [← e]; exact hj))
  rintro v5 - Y hY
  go_simp
  refine hY _ ?_
  clear hY Y
  intro ι hne X hX
  refine still_nil ?_
  clear hX hne
  intro w2 hto
  rw [HZ.out] at hto
  have HT2 := Hid.mk' (HACC.out w2 (HNX.out w2 hto))
  clear hto
  go_wp2_with fail
  refine Calls.mono HT2.out ?_
  rintro e w3 ⟨rfl, h3⟩
  have H3 := Hid.mk' h3
  clear h3 HT2 HACC
  by_cases harm : x.arm = 1
  · have e1 : (x.arm == 1) = true := by simp [harm]
    go_wp2
    go_ret
    exact ⟨rfl, H3.out⟩
  · have e1 : (x.arm == 1) = false := by simpa using harm
    go_wp2
    go_ret
    exact ⟨rfl, H3.out⟩
end
end Go.Proofs.Ytfgcbcopgikodaa
/- The reference: a stored block set anew; none waits; Flush. -/
namespace Go.Proofs.Ytfgcbcopgikodaa
open Go.RowKit

section
variable {w w1 w' : World} {ro ro' : Owner} {gx g : Nat} {x : Rdv} {vs vq vc vw v v' u : Value} {t : Tag} {st : List (List Nat)} {xs : List Nat}
theorem RowOf.blk {Fr : Nat → Prop} {e s n cap : Nat} {L : List Value} (h : RowOf w Fr e s (.slice (some ⟨g, 0, none⟩) n cap) n L) : ∃ M, Blk w g e M ∧ L.length ≤ M.length := by
  obtain ⟨hl, ⟨h1, _⟩ | ⟨g', cap', cur, e, hge, hb, h1, h2, h3, h4⟩⟩ := h.own
  · rcases h1 with h1 | h1 <;> simp at h1
  · simp only [Value.slice.injEq, Option.some.injEq, Addr.mk.injEq, and_true] at e
    obtain ⟨rfl, -, rfl⟩ := e
    refine ⟨cur.toList, hb, ?_⟩
    rw [hl, Array.length_toList, h3]
    exact Nat.mul_le_mul_right _ h1
theorem RowOf.set {Fr : Nat → Prop} {e s n cap : Nat} {L : List Value} (h : RowOf w Fr e s (.slice (some ⟨g, 0, none⟩) n cap) n L) (i : Nat) (u : Value) : RowOf (w.setCell ⟨g, i, none⟩ u) Fr e s (.slice (some ⟨g, 0, none⟩) n cap) n (L.set i u) := by
  obtain ⟨hl, ⟨h1, _⟩ | ⟨g', cap', cur, e, hge, hb, h1, h2, h3, h4⟩⟩ := h.own
  · rcases h1 with h1 | h1 <;> simp at h1
  · simp only [Value.slice.injEq, Option.some.injEq, Addr.mk.injEq, and_true] at e
    obtain ⟨rfl, -, rfl⟩ := e
    have hb' : Blk w g e cur.toList := hb
    have h5 := hb'.set i u
    refine ⟨⟨by rw [List.length_set]; exact hl, .inr ⟨g, cap, (cur.toList.set i u).toArray, rfl, hge, h5, h1, h2, by simpa using h3, ?_⟩⟩, h.inF⟩
    show (cur.toList.set i u).take _ = _
    rw [List.take_set, h4]
theorem StR.put {c : Nat} (h : StR w ro (.slice (some ⟨g, 0, none⟩) st.length c) st) {b : Nat} (hb : b < st.length) (hg : ro g = .sto) (k : Grow w w1) (hu : Ow w1 0 u xs) (hun : ∀ k, u.ownBlock = some k → ro k = .none) :
    StR (w1.setCell ⟨g, b, none⟩ u) (tagV ro u (.row b)) (.slice (some ⟨g, 0, none⟩) st.length c) (st.set b xs) := by
  have hE : Ext ro (tagV ro u (.row b)) := Ext.tagV (fun k hk => .inl (hun k hk))
  obtain ⟨L, h1, h2, h3⟩ := h.ex
  have hl : L.length = st.length := by rw [← h1, List.length_map]
  refine ⟨L.set b (u, xs), by rw [List.map_set, h1], ?_, fun b' e he => ?_⟩
  · rw [List.length_set, List.map_set]
    rw [← hl]
    rw [← hl] at h2
    exact ((h2.but k (fun _ _ h => h) (hE.is (by decide))).set b u)
  · rw [List.getElem?_set] at he
    split at he
    · next hq =>
      subst hq
      rw [if_pos (by omega)] at he
      cases he
      refine ⟨hu.but (But.set1 _ _ _ _) (fun j hj _ e => ?_), fun j hj => tagV_own hj⟩
      have := hun j hj
      rw [e, hg] at this; cases this
    · obtain ⟨h4, h5⟩ := h3 b' e he
      refine ⟨(h4.but k (fun _ _ _ h => h)).but (But.set1 _ _ _ _) (fun j hj _ e2 => ?_), fun j hj => hE.is (t := .row b') (by simp) j (h5 j hj)⟩
      have := h5 j hj
      rw [e2, hg] at this; cases this
theorem RdM.put {c : Nat} (h : RdM w ro gx x (.slice (some ⟨g, 0, none⟩) x.st.length c) vq vc vw) {b : Nat} (hb : b < x.st.length) (hg : ro g = .sto) (k : Grow w w1) (hu : Ow w1 0 u xs) (hun : ∀ k, u.ownBlock = some k → ro k = .none) (hw : wf256 xs) :
    RdM (w1.setCell ⟨g, b, none⟩ u) (tagV ro u (.row b)) gx { x with st := x.st.set b xs } (.slice (some ⟨g, 0, none⟩) x.st.length c) vq vc vw := by
  have hE : Ext ro (tagV ro u (.row b)) := Ext.tagV (fun k hk => .inl (hun k hk))
  have k2 : But (· = g) w (w1.setCell ⟨g, b, none⟩ u) := (k.mono (fun _ _ h => h.elim)).trans (But.set1 _ _ _ _)
  have hR : ∀ {t : Tag}, t ≠ .sto → ∀ b, ro b = t → ¬ b = g := fun q b hb e => q (by rw [← hb, e]; exact hg)
  have hs := h.sto.put hb hg k hu hun
  refine ⟨(h.top.grow k2.size).tagV (fun j hj => by have := (hu.ge j hj).2; simpa using this), hE.is (by decide) gx h.tag, h.blk.but k2 (hR (by decide) gx h.tag), hs, h.wai.but (by decide) k2 (fun j hj => hj.elim (hR (by decide) j) (hR (by decide) j)) hE, h.cop.but k2 (fun j hj => hj.elim (hR (by decide) j) (hR (by decide) j)) hE, h.wri.but (by decide) k2 (fun j hj => hj.elim (hR (by decide) j) (hR (by decide) j)) hE, ?_⟩
  refine ⟨by rw [List.length_set]; exact h.ok.n1, by rw [List.length_set]; exact h.ok.nb, fun c hc => ?_, by rw [List.length_set]; exact h.ok.wt, by rw [List.length_set]; exact h.ok.wr, by rw [List.length_set]; exact h.ok.im⟩
  rcases List.mem_or_eq_of_mem_set hc with h1 | h1
  · exact h.ok.st c h1
  · rw [h1]; exact hw
theorem StR.blk {c : Nat} (h : StR w ro (.slice (some ⟨g, 0, none⟩) st.length c) st) : ∃ M, Blk w g 32 M ∧ st.length ≤ M.length := by
  obtain ⟨L, h1, h2, -⟩ := h.ex
  have hl : L.length = st.length := by rw [← h1, List.length_map]
  rw [← hl] at h2
  obtain ⟨M, h3, h4⟩ := h2.blk
  exact ⟨M, h3, by rw [List.length_map] at h4; omega⟩
theorem RdM.putTo {c : Nat} (h : RdM w ro gx x (.slice (some ⟨g, 0, none⟩) x.st.length c) vq vc vw) {b : Nat} (hb : b < x.st.length) (hg : ro g = .sto) (k : Grow w w1) (hu : Ow w1 w.heap.size u xs) (hw : wf256 xs) : RdTo w ro gx { x with st := x.st.set b xs } (w1.setCell ⟨g, b, none⟩ u) :=
  ⟨(k.mono (fun _ _ h => h.elim)).trans ((But.set1 _ _ _ _).mono (fun j _ e => by rw [e, hg]; decide)), tagV ro u (.row b), (Fresh.refl w ro).tagV (fun j hj => .inl (hu.ge j hj).1), _, _, _, _, h.put hb hg k (hu.mono (Nat.zero_le _)) (fun j hj => h.top j (hu.ge j hj).1) hw⟩
/-- None waits any more. -/
theorem RdM.dry (h : RdM w ro gx x vs vq vc vw) {o : Bool} {a : Nat} (k : But (· = gx) w w') (hb : Blk w' gx 42 [vs, .slice none 0 0, .bool o, .int .i64 (a : Int), .int .i64 (x.cnt : Int), vc, vw]) : RdTo w ro gx { x with off := o, arm := a, wt := [] } w' := by
  have hx : ∀ {t : Tag}, t ≠ .dev → ∀ b, ro b = t → ¬ b = gx := fun h1 b hb e => h1 (by rw [← hb, e]; exact h.tag)
  refine ⟨k.mono (fun b _ e => by rw [e, h.tag]; decide), ro, Fresh.refl _ _, vs, .slice none 0 0, vc, vw, ?_⟩
  exact ⟨h.top.grow k.size, h.tag, hb, h.sto.but k (fun j hj => hj.elim (hx (by decide) j) (fun ⟨b, hb⟩ => hx (t := .row b) (by simp) j hb)) (fun _ _ => rfl), ⟨[], rfl, RowOf.nil _ _ _ _, fun e he => absurd he List.not_mem_nil⟩, h.cop.but k (fun j hj => hj.elim (hx (by decide) j) (hx (by decide) j)) (fun _ _ => rfl), h.wri.but (by decide) k (fun j hj => hj.elim (hx (by decide) j) (hx (by decide) j)) (fun _ _ => rfl), ⟨h.ok.n1, h.ok.nb, h.ok.st, fun e he => absurd he List.not_mem_nil, h.ok.wr, h.ok.im⟩⟩
end
/-- What is flushed. -/
def flushTo (st : List (List Nat)) (wt : List WrE) : List (List Nat) := wt.foldl (fun s e => s.set e.1 e.2) st
def Rdv.upto (x : Rdv) (i : Nat) : Rdv := { x with st := flushTo x.st (x.wt.take i) }
def Rdv.flushed (x : Rdv) : Rdv := { x with st := flushTo x.st x.wt, wt := [] }
theorem flushTo_len (st : List (List Nat)) : ∀ wt : List WrE, (flushTo st wt).length = st.length := by
  intro wt
  induction wt generalizing st with
  | nil => rfl
  | cons e wt ih =>
    show (flushTo (st.set e.1 e.2) wt).length = _
    rw [ih, List.length_set]
theorem Rdv.upto_next {x : Rdv} {i : Nat} (hi : i < x.wt.length) : x.upto (i + 1) = { x.upto i with st := (x.upto i).st.set (x.wt.getD i d0).1 (x.wt.getD i d0).2 } := by
  unfold Rdv.upto flushTo
  rw [List.take_succ_eq_append_getElem hi, List.foldl_append, List.getD_eq_getElem?_getD, List.getElem?_eq_getElem hi]
  rfl
end Go.Proofs.Ytfgcbcopgikodaa
/- The reference: Flush. -/
namespace Go.Proofs.Ytfgcbcopgikodaa
open Go.RowKit

section
variable {w : World} {ro : Owner} {gx : Nat} {x : Rdv}
theorem rflush_off (h : Rd w ro gx x) (hu : x.off = true) :
    Calls Try.prog 33 #[.pointer (some ⟨gx, 0, none⟩)] w fun e w' => e = .returned (.int .i64 7) ∧ w' = w := by
  obtain ⟨vs, vq, vc, vw, h⟩ := h
  have c2 : w.cell? ⟨gx, 2, none⟩ = some (.bool x.off) := h.blk.cell 2
  rw [hu] at c2
  clear h hu
  go_enter Try.func33, Try.ntmps33
  go_wp2
  go_ret
  exact ⟨rfl, rfl⟩
theorem rflush_gone (h : Rd w ro gx x) (hu : x.off = false) (hc : x.cnt < 4611686018427387904) (ha : x.arm = 1) :
    Calls Try.prog 33 #[.pointer (some ⟨gx, 0, none⟩)] w fun e w' => e = .returned (.int .i64 7) ∧ RdTo w ro gx x.acc w' := by
  have HAC := Hid.mk' (raccess_any h hu hc (by omega))
  rw [show (!(x.arm == 1)) = false by simp [ha]] at HAC
  obtain ⟨vs, vq, vc, vw, h⟩ := h
  have c2 : w.cell? ⟨gx, 2, none⟩ = some (.bool x.off) := h.blk.cell 2
  rw [hu] at c2
  clear h hu hc ha
  go_enter Try.func33, Try.ntmps33
  go_wp2_with fail
  refine Calls.mono HAC.out ?_
  rintro e w1 ⟨rfl, h1⟩
  have H1 := Hid.mk' h1
  clear h1
  go_wp2
  go_ret
  exact ⟨rfl, H1.out⟩
theorem rflush_any (h : Rd w ro gx x) (hu : x.off = false) (hc : x.cnt < 4611686018427387904) (ha : x.arm ≤ 9223372036854775807) (ha1 : x.arm ≠ 1) (hm : x.wt.length ≤ 100000) :
    Calls Try.prog 33 #[.pointer (some ⟨gx, 0, none⟩)] w fun e w' => e = .returned (.int .i64 0) ∧ RdTo w ro gx x.acc.flushed w' := by
  have HAC := Hid.mk' (raccess_any h hu hc ha)
  rw [show (!(x.arm == 1)) = true by simp [ha1]] at HAC
  obtain ⟨vs, vq, vc, vw, h⟩ := h
  have c2 : w.cell? ⟨gx, 2, none⟩ = some (.bool x.off) := h.blk.cell 2
  rw [hu] at c2
  have HMQ : Hid (x.acc.wt.length ≤ 100000) := hm
  clear h hu hc ha ha1 hm
  go_enter Try.func33, Try.ntmps33
  go_wp2_with fail
  refine Calls.mono HAC.out ?_
  rintro e w1 ⟨rfl, h1⟩
  obtain ⟨z, hz⟩ : ∃ z, z = x.acc := ⟨_, rfl⟩
  have H1 := Hid.mk' h1
  rw [← hz] at H1 HMQ
  have HFI : Hid (∀ w', RdTo w ro gx z.flushed w' → RdTo w ro gx x.acc.flushed w') := fun w' h => by rw [← hz]; exact h
  obtain ⟨m, hme⟩ : ∃ m, m = z.wt.length := ⟨_, rfl⟩
  have HME := Hid.mk' hme
  have hmb : (m : Int) ≤ 100000 := by have := HMQ.out; omega
  clear h1 hme c2 HAC hz
  go_wp2
  go_loopw [3] (fun iv wr => ∃ (i : Nat), i ≤ m ∧ iv = .int .i64 i ∧ RdTo w ro gx (z.upto i) wr) (fun iv _ => m - (intOf iv).toNat)
  case atStart => exact ⟨0, Nat.zero_le _, rfl, H1.out⟩
  case round =>
    obtain ⟨i, him, rfl, hto⟩ := hrel
    obtain ⟨ro1, f1, d1⟩ := hto.ex
    have HB1 := Hid.mk' hto.but
    have HF1 := Hid.mk' f1
    obtain ⟨vs, vq, vc, vw, h⟩ := d1
    have HH := Hid.mk' h
    obtain ⟨aq, cq, hvq⟩ := h.wai.len
    subst hvq
    have hwl : (z.upto i).wt.length = m := by rw [HME.out]; rfl
    have c1 : wr.cell? ⟨gx, 1, none⟩ = some (.slice aq m cq) := by rw [← hwl]; exact h.blk.cell 1
    by_cases hlt : i < m
    · have hlti : (i : Int) < (m : Int) := by omega
      have hiw : i < (z.upto i).wt.length := by rw [hwl]; exact hlt
      obtain ⟨gq, kq, u1, e1, -, h1, h2, h3⟩ := h.wai.at hiw
      simp only [Value.slice.injEq] at e1
      obtain ⟨rfl, -, rfl⟩ := e1
      have h1 : wr.cell? ⟨gq, i * 2, none⟩ = some (.int .i64 ((z.wt.getD i d0).1 : Int)) := h1
      have h3 : Bf wr (Is ro1 .pic) u1 (z.wt.getD i d0).2 := h3
      obtain ⟨e, he⟩ : ∃ e, e = z.wt.getD i d0 := ⟨_, rfl⟩
      rw [← he] at h1 h3
      have hin : e ∈ (z.upto i).wt := by
        have hi2 : i < z.wt.length := by rw [← HME.out]; exact hlt
        rw [he, List.getD_eq_getElem?_getD, List.getElem?_eq_getElem hi2]; exact List.getElem_mem hi2
      have hew := h.ok.wt e hin
      have HNX : Hid (z.upto (i + 1) = { z.upto i with st := (z.upto i).st.set e.1 e.2 }) := by
        show _ = _
        rw [he]
        exact Rdv.upto_next (by rw [← HME.out]; exact hlt)
      obtain ⟨b, xs⟩ := e
      have HWF := Hid.mk' hew
      have HU1 := Hid.mk' h3.1
      have hbl : b < (z.upto i).st.length := hew.1
      obtain ⟨gs, ks, u0, e0, hgs, -⟩ := h.sto.at hbl
      subst e0
      have HGS := Hid.mk' hgs
      obtain ⟨n, hn⟩ : ∃ n, n = (z.upto i).st.length := ⟨_, rfl⟩
      have c0 : wr.cell? ⟨gx, 0, none⟩ = some (.slice (some ⟨gs, 0, none⟩) n ks) := by rw [hn]; exact h.blk.cell 0
      have hbi : (b : Int) < (n : Int) := by rw [hn]; omega
      have HC : Hid (∀ w', Grow wr w' → w'.cell? ⟨gx, 0, none⟩ = some (.slice (some ⟨gs, 0, none⟩) n ks) ∧ w'.cell? ⟨gx, 1, none⟩ = some (.slice (some ⟨gq, 0, none⟩) m cq) ∧ w'.cell? ⟨gq, i * 2, none⟩ = some (.int .i64 (b : Int)) ∧ w'.cell? ⟨gq, i * 2 + 1, none⟩ = some u1) := fun w' k => ⟨grow_cell k c0, grow_cell k c1, grow_cell k h1, grow_cell k h2⟩
      have HBK : Hid (∃ M, Blk wr gs 32 M ∧ (z.upto i).st.length ≤ M.length) := h.sto.blk
      clear hto f1 h hiw h2 h3 he hin hew hbl hgs hn c0 h1 hwl
      go_upto_region 6 with fail
      refine region_chain [([0, 1, 2, 3, 4, 5, 6, 7, 8, 9, 10, 11, 12, 13, 14, 15, 16, 17, 18, 19], 20), ([21], 22)] [] (Grow wr) (Grow wr) (by kernel_rfl) (by kernel_rfl) (fun _ _ h k => h.trans k) (fun _ h => h) ((But.refl _ wr).drew) ?_
      intro ι hne X hX
      have d0 : ∀ x, (X x).cell? ⟨gx, 0, none⟩ = some (.slice (some ⟨gs, 0, none⟩) n ks) := fun x => (HC.out _ (hX x)).1
      have d1 : ∀ x, (X x).cell? ⟨gx, 1, none⟩ = some (.slice (some ⟨gq, 0, none⟩) m cq) := fun x => (HC.out _ (hX x)).2.1
      have d2 : ∀ x, (X x).cell? ⟨gq, i * 2, none⟩ = some (.int .i64 (b : Int)) := fun x => (HC.out _ (hX x)).2.2.1
      have d3 : ∀ x, (X x).cell? ⟨gq, i * 2 + 1, none⟩ = some u1 := fun x => (HC.out _ (hX x)).2.2.2
      iterate 20 (refine still_step rfl (fun K hK => ?_); go_simp; refine hK _ ?_; clear hK K)
      refine still_nil ?_
      clear d0 d1 d2 d3 hX hne
      refine turn_call rfl rfl (fun u w' => Grow wr w' ∧ Ow w' wr.heap.size u xs) (fun _ => Grow wr) (fun u w1 w2 h k => ⟨h.1.trans k, h.2.but k (fun _ _ _ h => h)⟩) (fun u w1 h => h.1) (.inr (fun _ _ h => h)) 31 #[u1] (fun _ => by kernel_rfl) ?_ ?_
      · intro w4 h4
        refine (copy_any (HU1.out.but h4 (fun _ _ _ h => h)) (by rw [HWF.out.2.1]; omega)).mono ?_
        rintro e w5 ⟨u, rfl, h5, h6⟩
        exact ⟨u, rfl, h4.trans (But.of h6), h5.mono h4.size⟩
      rintro u ⟨wq, -, hu⟩ Y hY
      have HV2 : Hid (u.oneCell' = true) := hu.bs.one
      clear hu wq
      go_simp
      refine hY _ ?_
      clear hY Y
      intro ι hne X hX
      iterate 1 (refine still_step rfl (fun K hK => ?_); go_simp; refine hK _ ?_; clear hK K)
      refine still_nil ?_
      clear hX hne
      refine turn_run rfl rfl (fun _ w' => RdTo w ro gx (z.upto (i + 1)) w') (fun _ _ => True) (fun _ _ _ h k => h.grow k) (fun _ _ _ => trivial) (.inl (by kernel_rfl)) ?_ ?_
      · rintro w4 ⟨h1, h2⟩
        obtain ⟨M, hM, hMl⟩ := HBK.out
        refine turn_store (by kernel_rfl) rfl rfl rfl HV2.out (hM.but h1 (fun h => h)) (Nat.lt_of_lt_of_le HWF.out.1 hMl) ?_
        rw [HNX.out]
        exact (HH.out.putTo HWF.out.1 HGS.out h1 h2 HWF.out.2).next HB1.out HF1.out
      rintro v5 - Y hY
      go_simp
      refine hY _ ?_
      clear hY Y
      intro ι hne X hX
      refine still_nil ?_
      clear hX hne
      intro w5 h5
      have H5 := Hid.mk' h5
      clear h5 c1
      go_wp2
      exact ⟨⟨i + 1, by omega, by go_num, H5.out⟩, by simp [intOf]; omega⟩
    · have hlti : ¬ ((i : Int) < (m : Int)) := by omega
      have f1 : wr.frozen? ⟨gx, 1, none⟩ = false := h.blk.free 1
      have HFN : Hid (RdTo w ro gx z.flushed (wr.setCell ⟨gx, 1, none⟩ (.slice none 0 0))) := by
        have h3 := (h.dry (o := (z.upto i).off) (a := (z.upto i).arm) (But.set1 _ _ _ _) (h.blk.set 1 (.slice none 0 0))).next HB1.out HF1.out
        have e : ({ z.upto i with wt := [] } : Rdv) = z.flushed := by
          unfold Rdv.upto Rdv.flushed
          rw [List.take_of_length_le (by have := HME.out; omega)]
        rw [← e]
        exact h3
      clear hto h hwl
      go_wp2
      go_ret
      exact ⟨rfl, HFI.out _ HFN.out⟩
end
end Go.Proofs.Ytfgcbcopgikodaa
/- The reference: Back. -/
namespace Go.Proofs.Ytfgcbcopgikodaa
open Go.RowKit

section
variable {w : World} {ro : Owner} {gx : Nat} {x : Rdv} {v : Value} {im : List (List (List Nat))}
theorem CpR.at (h : CpR w ro v im) {k i : Nat} (hk : k < im.length) (hi : i < (im.getD k []).length) : ∃ g c g2 c2 u, v = .slice (some ⟨g, 0, none⟩) im.length c ∧ w.cell? ⟨g, k, none⟩ = some (.slice (some ⟨g2, 0, none⟩) (im.getD k []).length c2) ∧ w.cell? ⟨g2, i, none⟩ = some u ∧ Bs w u ((im.getD k []).getD i []) := by
  obtain ⟨L, rfl, h2, h3⟩ := h.ex
  rw [List.length_map] at hk
  obtain ⟨ao, c, e, h4⟩ := h2.shape
  obtain ⟨g, rfl, -, -, h6⟩ := h4 (by omega)
  obtain ⟨M, h7, h8, h9⟩ := h3 L[k] (List.getElem_mem hk)
  have hg : (L.map (·.2)).getD k [] = L[k].2 := by rw [List.getD_eq_getElem?_getD, List.getElem?_map, List.getElem?_eq_getElem hk]; rfl
  rw [hg] at hi ⊢
  rw [← h7] at hi ⊢
  rw [List.length_map] at hi
  obtain ⟨ao2, c2, e2, q4⟩ := h8.shape
  obtain ⟨g2, rfl, -, -, q6⟩ := q4 (by omega)
  refine ⟨g, c, g2, c2, M[i].1, by rw [e, List.length_map], ?_, q6 i _ (by rw [List.getElem?_map, List.getElem?_eq_getElem hi]; rfl), ?_⟩
  · rw [h6 k L[k].1 (by rw [List.getElem?_map, List.getElem?_eq_getElem hk]; rfl), e2, List.length_map]
  · rw [List.getD_eq_getElem?_getD, List.getElem?_map, List.getElem?_eq_getElem hi]
    exact (h9 M[i] (List.getElem_mem hi)).1
/-- So many blocks are laid back. -/
def Rdv.bupto (x : Rdv) (k i : Nat) : Rdv := { x with st := (x.im.getD k []).take i ++ x.st.drop i }
def Rdv.backed (x : Rdv) (k : Nat) : Rdv := { x with st := x.im.getD k [], wt := [] }
theorem Rdv.bupto_next {x : Rdv} {k i : Nat} (hi : i < x.st.length) (hl : (x.im.getD k []).length = x.st.length) : x.bupto k (i + 1) = { x.bupto k i with st := (x.bupto k i).st.set i ((x.im.getD k []).getD i []) } := by
  unfold Rdv.bupto
  have hi2 : i < (x.im.getD k []).length := by omega
  generalize x.im.getD k [] = D at *
  have e1 : (D.take i).length = i := by rw [List.length_take]; omega
  simp only [Rdv.mk.injEq, and_true]
  rw [List.take_succ_eq_append_getElem hi2, List.set_append_right _ _ (by omega), e1, Nat.sub_self, List.drop_eq_getElem_cons hi, List.set_cons_zero, List.append_assoc, List.getD_eq_getElem?_getD, List.getElem?_eq_getElem hi2]
  rfl
theorem rback_arg (h : Rd w ro gx x) (y : Int) (hy : ¬ (0 ≤ y ∧ y < (x.im.length : Int))) :
    Calls Try.prog 44 #[.pointer (some ⟨gx, 0, none⟩), .int .i64 y] w fun e w' => e = .returned (.int .i64 1) ∧ w' = w := by
  obtain ⟨vs, vq, vc, vw, h⟩ := h
  obtain ⟨a, c, rfl⟩ := h.cop.len
  have c5 : w.cell? ⟨gx, 5, none⟩ = some (.slice a x.im.length c) := h.blk.cell 5
  clear h
  generalize x.im.length = n at *
  by_cases h1 : y < 0
  · go_enter Try.func44, Try.ntmps44
    go_wp2
    go_ret
    exact ⟨rfl, rfl⟩
  · have h2 : (n : Int) ≤ y := by omega
    clear hy
    go_enter Try.func44, Try.ntmps44
    go_wp2
    go_ret
    exact ⟨rfl, rfl⟩
theorem rback_any (h : Rd w ro gx x) {k : Nat} (hk : k < x.im.length) :
    Calls Try.prog 44 #[.pointer (some ⟨gx, 0, none⟩), .int .i64 (k : Int)] w fun e w' => e = .returned (.int .i64 0) ∧ RdTo w ro gx (x.backed k) w' := by
  have H1 : Hid (RdTo w ro gx (x.bupto k 0) w) := by
    have e : x.bupto k 0 = x := by unfold Rdv.bupto; simp
    rw [e]; exact h.same (But.refl _ _)
  have hok := h.ok
  have himl := hok.im (x.im.getD k []) (by rw [List.getD_eq_getElem?_getD, List.getElem?_eq_getElem hk]; exact List.getElem_mem hk)
  have HIL := Hid.mk' himl
  obtain ⟨m, hme⟩ : ∃ m, m = x.st.length := ⟨_, rfl⟩
  have HME := Hid.mk' hme
  have hmb : (m : Int) ≤ 65536 := by have := hok.nb; omega
  have HKL := Hid.mk' hk
  obtain ⟨vs, vq, vc, vw, h⟩ := h
  obtain ⟨a, c, rfl⟩ := h.cop.len
  obtain ⟨nk, hnk⟩ : ∃ nk, nk = x.im.length := ⟨_, rfl⟩
  have HNK := Hid.mk' hnk
  have c5 : w.cell? ⟨gx, 5, none⟩ = some (.slice a nk c) := by rw [hnk]; exact h.blk.cell 5
  have hki : (k : Int) < (nk : Int) := by omega
  have hki2 : ¬ ((k : Int) < 0) := by omega
  have hki3 : ¬ ((nk : Int) ≤ (k : Int)) := by omega
  clear h hk hok himl hme hnk
  go_enter Try.func44, Try.ntmps44
  go_wp2
  clear c5
  go_loopw [5] (fun iv wr => ∃ (i : Nat), i ≤ m ∧ iv = .int .i64 i ∧ RdTo w ro gx (x.bupto k i) wr) (fun iv _ => m - (intOf iv).toNat)
  case atStart => exact ⟨0, Nat.zero_le _, rfl, H1.out⟩
  case round =>
    obtain ⟨i, him, rfl, hto⟩ := hrel
    obtain ⟨ro1, f1, d1⟩ := hto.ex
    have HB1 := Hid.mk' hto.but
    have HF1 := Hid.mk' f1
    obtain ⟨vs, vq, vc, vw, h⟩ := d1
    have HH := Hid.mk' h
    obtain ⟨aS, cs, hvs⟩ := h.sto.len
    subst hvs
    have hsl : (x.bupto k i).st.length = m := by
      unfold Rdv.bupto
      rw [List.length_append, List.length_take, List.length_drop, HIL.out.1, HME.out]
      have := HME.out
      omega
    have HSL := Hid.mk' hsl
    have c0 : wr.cell? ⟨gx, 0, none⟩ = some (.slice aS m cs) := by rw [← hsl]; exact h.blk.cell 0
    by_cases hlt : i < m
    · have hlti : (i : Int) < (m : Int) := by omega
      have hbl : i < (x.bupto k i).st.length := by rw [hsl]; exact hlt
      obtain ⟨gs, ks, u0, e0, hgs, -⟩ := h.sto.at hbl
      simp only [Value.slice.injEq] at e0
      obtain ⟨rfl, -, rfl⟩ := e0
      have hki5 : i < ((x.bupto k i).im.getD k []).length := by
        show i < (x.im.getD k []).length
        have := HME.out
        rw [HIL.out.1]; omega
      obtain ⟨gc, kc, gp, kp, u1, ec, h1, h2, h3⟩ := h.cop.at (k := k) (by exact HKL.out) hki5
      subst ec
      have hpl : ((x.bupto k i).im.getD k []).length = m := by show (x.im.getD k []).length = m; rw [HIL.out.1, HME.out]
      rw [hpl] at h1
      obtain ⟨xs, hxs⟩ : ∃ xs, xs = (x.im.getD k []).getD i [] := ⟨_, rfl⟩
      have h3 : Bs wr u1 ((x.im.getD k []).getD i []) := h3
      rw [← hxs] at h3
      have HWF : Hid (i < (x.bupto k i).st.length ∧ wf256 xs) := ⟨hbl, by
        have hi2 : i < (x.im.getD k []).length := hki5
        rw [hxs, List.getD_eq_getElem?_getD, List.getElem?_eq_getElem hi2]
        exact HIL.out.2 _ (List.getElem_mem hi2)⟩
      have HNX : Hid (x.bupto k (i + 1) = { x.bupto k i with st := (x.bupto k i).st.set i xs }) := by
        show _ = _
        rw [hxs]
        exact Rdv.bupto_next (by rw [← HME.out]; exact hlt) HIL.out.1
      have HU1 := Hid.mk' h3
      have HGS := Hid.mk' hgs
      have c5 : wr.cell? ⟨gx, 5, none⟩ = some (.slice (some ⟨gc, 0, none⟩) nk kc) := by rw [HNK.out]; exact h.blk.cell 5
      have HC : Hid (∀ w', Grow wr w' → w'.cell? ⟨gx, 0, none⟩ = some (.slice (some ⟨gs, 0, none⟩) m cs) ∧ w'.cell? ⟨gx, 5, none⟩ = some (.slice (some ⟨gc, 0, none⟩) nk kc) ∧ w'.cell? ⟨gc, k, none⟩ = some (.slice (some ⟨gp, 0, none⟩) m kp) ∧ w'.cell? ⟨gp, i, none⟩ = some u1) := fun w' k => ⟨grow_cell k c0, grow_cell k c5, grow_cell k h1, grow_cell k h2⟩
      have HBK : Hid (∃ M, Blk wr gs 32 M ∧ (x.bupto k i).st.length ≤ M.length) := h.sto.blk
      clear hto f1 h h1 h2 h3 hxs hbl hgs hki5 hpl c5 hsl
      go_upto_region 6 with fail
      refine region_chain [([0, 1, 2, 3, 4, 5, 6, 7, 8, 9, 10, 11, 12, 13, 14], 15), ([16], 17)] [] (Grow wr) (Grow wr) (by kernel_rfl) (by kernel_rfl) (fun _ _ h k => h.trans k) (fun _ h => h) ((But.refl _ wr).drew) ?_
      intro ι hne X hX
      have d0 : ∀ x, (X x).cell? ⟨gx, 0, none⟩ = some (.slice (some ⟨gs, 0, none⟩) m cs) := fun x => (HC.out _ (hX x)).1
      have d1 : ∀ x, (X x).cell? ⟨gx, 5, none⟩ = some (.slice (some ⟨gc, 0, none⟩) nk kc) := fun x => (HC.out _ (hX x)).2.1
      have d2 : ∀ x, (X x).cell? ⟨gc, k, none⟩ = some (.slice (some ⟨gp, 0, none⟩) m kp) := fun x => (HC.out _ (hX x)).2.2.1
      have d3 : ∀ x, (X x).cell? ⟨gp, i, none⟩ = some u1 := fun x => (HC.out _ (hX x)).2.2.2
      iterate 15 (refine still_step rfl (fun K hK => ?_); go_simp; refine hK _ ?_; clear hK K)
      refine still_nil ?_
      clear d0 d1 d2 d3 hX hne
      refine turn_call rfl rfl (fun u w' => Grow wr w' ∧ Ow w' wr.heap.size u xs) (fun _ => Grow wr) (fun u w1 w2 h k => ⟨h.1.trans k, h.2.but k (fun _ _ _ h => h)⟩) (fun u w1 h => h.1) (.inr (fun _ _ h => h)) 31 #[u1] (fun _ => by kernel_rfl) ?_ ?_
      · intro w4 h4
        refine (copy_any (HU1.out.but h4 (fun _ _ _ h => h)) (by rw [HWF.out.2.1]; omega)).mono ?_
        rintro e w5 ⟨u, rfl, h5, h6⟩
        exact ⟨u, rfl, h4.trans (But.of h6), h5.mono h4.size⟩
      rintro u ⟨wq, -, hu⟩ Y hY
      have HV2 : Hid (u.oneCell' = true) := hu.bs.one
      clear hu wq
      go_simp
      refine hY _ ?_
      clear hY Y
      intro ι hne X hX
      iterate 1 (refine still_step rfl (fun K hK => ?_); go_simp; refine hK _ ?_; clear hK K)
      refine still_nil ?_
      clear hX hne
      refine turn_run rfl rfl (fun _ w' => RdTo w ro gx (x.bupto k (i + 1)) w') (fun _ _ => True) (fun _ _ _ h k => h.grow k) (fun _ _ _ => trivial) (.inl (by kernel_rfl)) ?_ ?_
      · rintro w4 ⟨h1, h2⟩
        obtain ⟨M, hM, hMl⟩ := HBK.out
        refine turn_store (by kernel_rfl) rfl rfl rfl HV2.out (hM.but h1 (fun h => h)) (Nat.lt_of_lt_of_le HWF.out.1 hMl) ?_
        rw [HNX.out]
        exact (HH.out.putTo HWF.out.1 HGS.out h1 h2 HWF.out.2).next HB1.out HF1.out
      rintro v5 - Y hY
      go_simp
      refine hY _ ?_
      clear hY Y
      intro ι hne X hX
      refine still_nil ?_
      clear hX hne
      intro w5 h5
      have H5 := Hid.mk' h5
      clear h5 c0
      go_wp2
      exact ⟨⟨i + 1, by omega, by go_num, H5.out⟩, by simp [intOf]; omega⟩
    · have hlti : ¬ ((i : Int) < (m : Int)) := by omega
      have c1 : wr.cell? ⟨gx, 1, none⟩ = some vq := h.blk.cell 1
      have f1 : wr.frozen? ⟨gx, 1, none⟩ = false := h.blk.free 1
      have HFN : Hid (RdTo w ro gx (x.backed k) (wr.setCell ⟨gx, 1, none⟩ (.slice none 0 0))) := by
        have h3 := (h.dry (o := (x.bupto k i).off) (a := (x.bupto k i).arm) (But.set1 _ _ _ _) (h.blk.set 1 (.slice none 0 0))).next HB1.out HF1.out
        have e : ({ x.bupto k i with wt := [] } : Rdv) = x.backed k := by
          unfold Rdv.bupto Rdv.backed
          have := HME.out
          rw [List.take_of_length_le (by rw [HIL.out.1]; omega), List.drop_of_length_le (by omega), List.append_nil]
        rw [← e]
        exact h3
      clear hto h hsl
      go_wp2
      go_ret
      exact ⟨rfl, HFN.out⟩
end
end Go.Proofs.Ytfgcbcopgikodaa
/- The reference: lay, Copy. -/
namespace Go.Proofs.Ytfgcbcopgikodaa
open Go.RowKit

def Rdv.laid (x : Rdv) (b : Nat) (xs : List Nat) : Rdv := { x with st := x.st.set b xs, wt := x.wt.filter (fun e => !(e.1 == b)) }
section
variable {w w0 w1 wr : World} {ro : Owner} {gx : Nat} {x : Rdv} {vs vq vc vw v u : Value} {xs : List Nat}
theorem RdM.rest (h : RdM w ro gx x vs vq vc vw) {L : List TlE} (k : Grow w wr) (hrow : wr.ownsRow 0 58 2 v L.length (L.flatMap tlc)) (hnew : ∀ k, v.ownBlock = some k → w.heap.size ≤ k) (hel : ∀ e ∈ L, Bf w (Is ro .pic) e.2 e.1.2) (hin : ∀ e ∈ L, e.1 ∈ x.wt) :
    RdM (wr.setCell ⟨gx, 1, none⟩ v) (tagV ro v .map) gx { x with wt := L.map (·.1) } vs v vc vw := by
  have hE : Ext ro (tagV ro v .map) := Ext.tagV (fun k hk => .inl (h.top k (hnew k hk)))
  have k2 : But (· = gx) w (wr.setCell ⟨gx, 1, none⟩ v) := (k.mono (fun _ _ h => h.elim)).trans (But.set1 _ _ _ _)
  have hx : ∀ {t : Tag}, t ≠ .dev → ∀ b, ro b = t → ¬ b = gx := fun h1 b hb e => h1 (by rw [← hb, e]; exact h.tag)
  have hgl := h.blk.lt
  refine ⟨(h.top.grow k2.size).tagV (fun j hj => by have := (hrow.lt j hj).2; simpa using this), hE.is (by decide) gx h.tag, (h.blk.but k (fun h => h)).set 1 v, h.sto.but k2 (fun j hj => hj.elim (hx (by decide) j) (fun ⟨b, hb⟩ => hx (t := .row b) (by simp) j hb)) hE, ⟨L, rfl, ⟨ownsRow_but hrow (But.set1 _ _ _ _) (fun j hj e => by have := hnew j hj; omega), fun j hj => tagV_own hj⟩, fun e he => ?_⟩, h.cop.but k2 (fun j hj => hj.elim (hx (by decide) j) (hx (by decide) j)) hE, h.wri.but (by decide) k2 (fun j hj => hj.elim (hx (by decide) j) (hx (by decide) j)) hE, ⟨h.ok.n1, h.ok.nb, h.ok.st, fun e he => ?_, h.ok.wr, h.ok.im⟩⟩
  · have h1 := (hel e he).but k2 (fun j hj => hx (t := .pic) (by decide) j hj)
    exact ⟨h1.1, fun h0 j hj => hE.is (by decide) j (h1.2 h0 j hj)⟩
  · obtain ⟨f, hf, rfl⟩ := List.mem_map.1 he
    exact h.ok.wt _ (hin f hf)
theorem iWt : (Try.prog.info? 58).map (·.size) = some 2 := by kernel_rfl
set_option maxRecDepth 100000 in
theorem rlay_any (h : Rd w ro gx x) {b : Nat} (hb : b < x.st.length) (hm : x.wt.length ≤ 100000) (k0 : But (fun b => ro b ≠ .none) w0 w) (hu : Ow w w0.heap.size u xs) (hun : ∀ k, u.ownBlock = some k → ro k = .none) (hw : wf256 xs) :
    Calls Try.prog 57 #[.pointer (some ⟨gx, 0, none⟩), .int .i64 (b : Int), u] w fun e w' => e = .returned (.tuple #[]) ∧ RdTo w0 ro gx (x.laid b xs) w' := by
  obtain ⟨vs, vq, vc, vw, h⟩ := h
  have HH := Hid.mk' h
  obtain ⟨L, hL, hr, hel⟩ := h.wai.ex
  have HL := Hid.mk' hL
  have HEL := Hid.mk' hel
  obtain ⟨aq, cq, hvq, hce⟩ := hr.shape
  subst hvq
  have HCE := Hid.mk' hce
  obtain ⟨m, hme⟩ : ∃ m, m = L.length := ⟨_, rfl⟩
  have HME := Hid.mk' hme
  have hml : m ≤ 100000 := by
    rw [hme, ← List.length_map (f := fun e : TlE => e.1), hL]; exact hm
  have HML := Hid.mk' hml
  have hmb : (m : Int) ≤ 100000 := by omega
  obtain ⟨gs, ks, u0, e0, hgs, -⟩ := h.sto.at hb
  subst e0
  obtain ⟨n, hn⟩ : ∃ n, n = x.st.length := ⟨_, rfl⟩
  have hbi : (b : Int) < (n : Int) := by omega
  have c0 : w.cell? ⟨gx, 0, none⟩ = some (.slice (some ⟨gs, 0, none⟩) n ks) := by rw [hn]; exact h.blk.cell 0
  have c1 : w.cell? ⟨gx, 1, none⟩ = some (.slice aq m cq) := by rw [hme]; exact h.blk.cell 1
  have HC0 := Hid.mk' c0
  have HC1 := Hid.mk' c1
  obtain ⟨uA, uN, uK, rfl⟩ := hu.bs.sl
  have HFIN : Hid (∀ (wr : World) (v : Value), Grow w wr → wr.ownsRow 0 58 2 v (L.filter (fun e => !(e.1.1 == b))).length ((L.filter (fun e => !(e.1.1 == b))).flatMap tlc) → (∀ k, v.ownBlock = some k → w.heap.size ≤ k) → (∃ M, Blk (wr.setCell ⟨gx, 1, none⟩ v) gs 32 M ∧ b < M.length) ∧ RdTo w0 ro gx (x.laid b xs) ((wr.setCell ⟨gx, 1, none⟩ v).setCell ⟨gs, b, none⟩ (.slice uA uN uK))) := fun wr v k hrow hnew => by
    have h1 := HH.out.rest (v := v) k hrow hnew (fun e he => HEL.out e (List.mem_filter.1 he).1) (fun e he => by rw [← HL.out]; exact List.mem_map.2 ⟨e, (List.mem_filter.1 he).1, rfl⟩)
    have hub : ∀ k, (.slice uA uN uK : Value).ownBlock = some k → v.ownBlock ≠ some k := fun k hk hv => by
      have := (hu.ge k hk).2
      have := hnew k hv
      omega
    have hug : ∀ k, (.slice uA uN uK : Value).ownBlock = some k → k ≠ gx := fun k hk e => by
      have := hun k hk
      rw [e, HH.out.tag] at this; cases this
    obtain ⟨M, hM, hMl⟩ := h1.sto.blk
    have hwt : ({ x with wt := (L.filter (fun e => !(e.1.1 == b))).map (·.1) } : Rdv).wt = x.wt.filter (fun e => !(e.1 == b)) := by
      show (L.filter (fun e => !(e.1.1 == b))).map (·.1) = _
      rw [← HL.out, List.filter_map]
      rfl
    have hg1 : tagV ro v .map gs = .sto := (Ext.tagV (t := .map) (own := ro) (v := v) (fun k hk => .inl (HH.out.top k (hnew k hk)))).is (by decide) gs hgs
    have h2 := h1.put (u := .slice uA uN uK) (xs := xs) (w1 := wr.setCell ⟨gx, 1, none⟩ v) (b := b) hb hg1 (But.refl _ _) (((hu.mono (Nat.zero_le _)).but k (fun _ _ _ h => h)).but (But.set1 _ _ _ _) (fun j hj _ e => hug j hj e)) (fun j hj => by rw [tagV_other (hub j hj)]; exact hun j hj) hw
    refine ⟨⟨M, hM, Nat.lt_of_lt_of_le hb hMl⟩, ?_, tagV (tagV ro v .map) (.slice uA uN uK) (.row b), ?_, .slice (some ⟨gs, 0, none⟩) x.st.length ks, v, vc, vw, ?_⟩
    · refine (k0.trans ((k.mono (fun _ _ h => h.elim)).trans ((But.set1 _ _ _ _).mono (fun j _ e => ?_)))).trans ((But.set1 _ _ _ _).mono (fun j _ e => ?_))
      · rw [e, HH.out.tag]; decide
      · rw [e, hgs]; decide
    · exact ((Fresh.refl w0 ro).tagV (fun j hj => .inl (Nat.le_trans k0.size (hnew j hj)))).tagV (fun j hj => .inl (hu.ge j hj).1)
    · unfold Rdv.laid
      rw [← hwt]
      exact h2
  have HGG : Hid (∀ wr, Grow wr wr ∧ ∀ v : Value, ∀ wq, Grow w wq → Blk wq gx 42 [.slice (some ⟨gs, 0, none⟩) x.st.length ks, .slice aq L.length cq, .bool x.off, .int .i64 (x.arm : Int), .int .i64 (x.cnt : Int), vc, vw]) := fun wr => ⟨But.refl _ _, fun v wq k => HH.out.blk.but k (fun h => h)⟩
  have HNG : Hid (gs ≠ gx) := fun e => by rw [e, HH.out.tag] at hgs; cases hgs
  clear h hL hr hel hce hml hb hm hu hun hw hn hme hgs k0
  go_enter Try.func57, Try.ntmps57
  go_wp2
  clear c0 c1
  go_loopw [6, 7] (fun tv iv wr => ∃ (i : Nat) (v : Value), i ≤ m ∧ iv = .int .i64 i ∧ v = tv ∧ wr.ownsRow 0 58 2 v ((L.take i).filter (fun e => !(e.1.1 == b))).length (((L.take i).filter (fun e => !(e.1.1 == b))).flatMap tlc) ∧ (∀ k, v.ownBlock = some k → w.heap.size ≤ k) ∧ Grow w wr) (fun _ iv _ => m - (intOf iv).toNat)
  case atStart => exact ⟨0, .slice none 0 0, Nat.zero_le _, rfl, rfl, World.ownsRow_nil _ _ _ _, (fun k hk => by cases hk), But.refl _ _⟩
  case round =>
    rename_i tv
    obtain ⟨i, v, him, rfl, rfl, hT, hV, hG⟩ := hrel
    have HT := Hid.mk' hT
    have HV := Hid.mk' hV
    have HG := Hid.mk' hG
    have c1 : wr.cell? ⟨gx, 1, none⟩ = some (.slice aq m cq) := grow_cell hG HC1.out
    by_cases hlt : i < m
    · have hlti : (i : Int) < (m : Int) := by omega
      have hiw : i < L.length := by rw [← HME.out]; exact hlt
      obtain ⟨gq, rfl, -, -, hcq⟩ := HCE.out (by omega)
      obtain ⟨e, he⟩ : ∃ e, e = L[i] := ⟨_, rfl⟩
      have hLi : L[i]? = some e := by rw [List.getElem?_eq_getElem hiw, he]
      have HNX : Hid ((L.take (i + 1)).filter (fun e => !(e.1.1 == b)) = (L.take i).filter (fun e => !(e.1.1 == b)) ++ (if (e.1.1 == b) = true then [] else [e])) := by
        show _ = _
        rw [List.take_succ_eq_append_getElem hiw, List.filter_append, ← he]
        congr 1
        cases hq : (e.1.1 == b) <;> simp [hq]
      obtain ⟨⟨q, ys⟩, u1⟩ := e
      have h1 : wr.cell? ⟨gq, i * 2, none⟩ = some (.int .i64 (q : Int)) := grow_cell hG (hcq (i * 2) _ (flat_at L (fun e _ => tlc_len e) i _ 0 _ hLi rfl))
      have h2 : wr.cell? ⟨gq, i * 2 + 1, none⟩ = some u1 := grow_cell hG (hcq (i * 2 + 1) _ (flat_at L (fun e _ => tlc_len e) i _ 1 _ hLi rfl))
      have HB1 : Hid (Bs w u1 ys) := (HEL.out ((q, ys), u1) (by rw [he]; exact List.getElem_mem hiw)).1
      obtain ⟨ua, un, uc, rfl⟩ := HB1.out.sl
      clear hT hV hG hiw he hLi hcq
      by_cases hqb : q = b
      · have hqi : ((q : Int) == (b : Int)) = true := by simp [hqb]
        have HN2 : Hid ((L.take (i + 1)).filter (fun e => !(e.1.1 == b)) = (L.take i).filter (fun e => !(e.1.1 == b))) := by show _ = _; rw [HNX.out, if_pos (by simpa using hqb), List.append_nil]
        clear hqb
        go_wp2
        exact ⟨⟨i + 1, v, by omega, by go_num, rfl, by rw [HN2.out]; exact HT.out, HV.out, HG.out⟩, by simp [intOf]; omega⟩
      · have hqi : ((q : Int) == (b : Int)) = false := by
          have : ¬ (q : Int) = (b : Int) := by omega
          simpa using this
        have HN2 : Hid ((L.take (i + 1)).filter (fun e => !(e.1.1 == b)) = (L.take i).filter (fun e => !(e.1.1 == b)) ++ [((q, ys), .slice ua un uc)]) := by show _ = _; rw [HNX.out, if_neg (by simpa using hqb)]
        obtain ⟨F, hF⟩ : ∃ F, F = (L.take i).filter (fun e => !(e.1.1 == b)) := ⟨_, rfl⟩
        rw [← hF] at HT HN2
        have HFL : Hid (F.length ≤ 100000) := by
          show _ ≤ _
          have h5 : F.length ≤ (L.take i).length := by rw [hF]; exact List.length_filter_le _ _
          rw [List.length_take] at h5
          have := HML.out
          omega
        have HCW : Hid (∀ c u, ([.int .i64 (q : Int), .slice ua un uc] : List Value)[c]? = some u → wr.cell? ((⟨gq, i * 2, none⟩ : Addr).add c) = some u) := fun c u hc => by
          rw [addr_add]
          match c, hc with
          | 0, hc => cases hc; exact h1
          | 1, hc => cases hc; exact h2
          | (c + 2), hc => simp at hc
        have HAL : Hid (Grow wr (wr.alloc (.cells #[.int .i64 (q : Int), .slice ua un uc] 58))) := (But.refl _ wr).alloc _
        have HBL : Hid (Blk (wr.alloc (.cells #[.int .i64 (q : Int), .slice ua un uc] 58)) wr.heap.size 58 [.int .i64 (q : Int), .slice ua un uc]) := Blk.new (L := [.int .i64 (q : Int), .slice ua un uc]) rfl
        clear hqb hF HNX
        go_wp2_with (first
          | (refine wpList_load_cells rfl _ _ rfl ⟨gq, i * 2, none⟩ rfl [.int .i64 (q : Int), .slice ua un uc] _ HCW.out Try.underlying58 rfl iWt ?_)
          | (refine wpList_run rfl (exec_row1 Try.underlying37 zeroWr (by decide) (by decide) rfl rfl rfl) ?_)
          | (refine wpList_some rfl (exec_append (v := v) (n := F.length) (xs := F.flatMap tlc) (news := [.int .i64 (q : Int), .slice ua un uc]) Try.underlying37 zeroWr rfl (by decide) rfl rfl (ownsRow_grow HT.out HAL.out) rfl rfl (fun j u hj => HBL.out.cells0 j u hj) (fun u hu => by
              rcases List.mem_cons.1 hu with rfl | hu
              · rfl
              · rw [show u = .slice ua un uc by simpa using hu]; rfl) (by have := HFL.out; omega) (by decide)) ?_; intro v4 w4 hap)
          | fail)
        refine ⟨⟨i + 1, v4, by omega, by go_num, rfl, ?_, fun k hk => ?_, ?_⟩, by simp [intOf]; omega⟩
        · rw [HN2.out, List.length_append, List.length_singleton, List.flatMap_append]
          exact hap.own
        · rcases hap.at' with e | e
          · exact HV.out k (by rw [← e]; exact hk)
          · rw [e] at hk
            cases hk
            exact Nat.le_trans HG.out.size HAL.out.size
        · exact (HG.out.trans HAL.out).then hap.but (fun j hj e => by have := HV.out j e; omega)
    · have hlti : ¬ ((i : Int) < (m : Int)) := by omega
      have hT2 : wr.ownsRow 0 58 2 v (L.filter (fun e => !(e.1.1 == b))).length ((L.filter (fun e => !(e.1.1 == b))).flatMap tlc) := by
        rw [List.take_of_length_le (by have := HME.out; omega)] at hT
        exact hT
      have HV1 : Hid (v.oneCell' = true) := ownsRow_one hT
      obtain ⟨⟨M, hM, hMl⟩, hfin⟩ := HFIN.out wr v hG hT2 hV
      have HM := Hid.mk' hM
      have HMl := Hid.mk' hMl
      have HFI := Hid.mk' hfin
      have hbk := (HGG.out wr).2 v wr hG
      have f1 : wr.frozen? ⟨gx, 1, none⟩ = false := hbk.free 1
      have c00 : (wr.setCell ⟨gx, 1, none⟩ v).cell? ⟨gx, 0, none⟩ = some (.slice (some ⟨gs, 0, none⟩) n ks) := by
        have h5 : wr.cell? ⟨gx, 0, none⟩ = some (.slice (some ⟨gs, 0, none⟩) n ks) := grow_cell hG HC0.out
        have h6 := (hbk.set 1 v).cell 0
        rw [hbk.cell] at h5
        exact h6.trans h5
      have HC00 := Hid.mk' c00
      obtain ⟨va, vn, vk, rfl⟩ : ∃ a n k, v = .slice a n k := by obtain ⟨-, ⟨e, -⟩ | ⟨g', c', cu, e, -⟩⟩ := hT <;> exact ⟨_, _, _, e⟩
      clear hT hV hG hT2 hM hMl hfin hbk c00
      go_upto_region 7 with fail
      generalize wr.setCell ⟨gx, 1, none⟩ (.slice va vn vk) = w6 at *
      have c00 := HC00.out
      have f6 : w6.frozen? ⟨gs, b, none⟩ = false := HM.out.free b
      obtain ⟨u6, hu6⟩ : ∃ u6, M[b]? = some u6 := ⟨_, List.getElem?_eq_getElem HMl.out⟩
      have c6 : w6.cell? ⟨gs, b, none⟩ = some u6 := (HM.out.cell b).trans hu6
      clear hu6
      go_wp2
      go_end0
      exact ⟨rfl, HFI.out⟩
end
end Go.Proofs.Ytfgcbcopgikodaa
/- The reference: Copy, Poke. -/
namespace Go.Proofs.Ytfgcbcopgikodaa
open Go.RowKit

section
variable {w : World} {ro : Owner} {gx : Nat} {x : Rdv} {v : Value} {ys : List Nat}
theorem rcopy_arg (h : Rd w ro gx x) (y z : Int) (hx : ¬ ((0 ≤ y ∧ y < (x.st.length : Int)) ∧ (0 ≤ z ∧ z < (x.st.length : Int)))) :
    Calls Try.prog 42 #[.pointer (some ⟨gx, 0, none⟩), .int .i64 y, .int .i64 z] w fun e w' => e = .returned (.int .i64 1) ∧ w' = w := by
  have HHX := Hid.mk' (rhas_any h y)
  have HHY := Hid.mk' (rhas_any h z)
  clear h
  by_cases h1 : 0 ≤ y ∧ y < (x.st.length : Int)
  · rw [decide_eq_true h1] at HHX
    rw [decide_eq_false (fun h2 => hx ⟨h1, h2⟩)] at HHY
    clear h1 hx
    go_enter Try.func42, Try.ntmps42
    go_wp2_with fail
    refine Calls.mono HHX.out ?_
    rintro e w ⟨rfl, rfl⟩
    go_wp2_with fail
    refine Calls.mono HHY.out ?_
    rintro e w ⟨rfl, rfl⟩
    go_wp2
    go_ret
    exact ⟨rfl, rfl⟩
  · rw [decide_eq_false h1] at HHX
    clear h1 hx HHY
    go_enter Try.func42, Try.ntmps42
    go_wp2_with fail
    refine Calls.mono HHX.out ?_
    rintro e w ⟨rfl, rfl⟩
    go_wp2
    go_ret
    exact ⟨rfl, rfl⟩
theorem rcopy_any (h : Rd w ro gx x) {a b : Nat} (ha : a < x.st.length) (hb : b < x.st.length) (hm : x.wt.length ≤ 100000) :
    Calls Try.prog 42 #[.pointer (some ⟨gx, 0, none⟩), .int .i64 (a : Int), .int .i64 (b : Int)] w fun e w' => e = .returned (.int .i64 0) ∧ RdTo w ro gx (x.laid b (x.now a)) w' := by
  have HHX := Hid.mk' (rhas_any h (a : Int))
  have HHY := Hid.mk' (rhas_any h (b : Int))
  rw [decide_eq_true (by omega : (0 : Int) ≤ (a : Int) ∧ (a : Int) < (x.st.length : Int))] at HHX
  rw [decide_eq_true (by omega : (0 : Int) ≤ (b : Int) ∧ (b : Int) < (x.st.length : Int))] at HHY
  have HRE := Hid.mk' (rnow_any h ha hm)
  have HLA : Hid (∀ w1 v, Grow w w1 → Ow w1 w.heap.size v (x.now a) → Calls Try.prog 57 #[.pointer (some ⟨gx, 0, none⟩), .int .i64 (b : Int), v] w1 fun e w' => e = .returned (.tuple #[]) ∧ RdTo w ro gx (x.laid b (x.now a)) w') := fun w1 v hg hv => rlay_any (h.grow hg) hb hm (hg.mono (fun _ _ h => h.elim)) hv (fun k hk => h.top k (hv.ge k hk).1) (h.ok.now ha)
  clear h ha hb hm
  go_enter Try.func42, Try.ntmps42
  go_wp2_with fail
  refine Calls.mono HHX.out ?_
  rintro e w ⟨rfl, rfl⟩
  go_wp2_with fail
  refine Calls.mono HHY.out ?_
  rintro e w ⟨rfl, rfl⟩
  go_wp2_with fail
  refine Calls.mono HRE.out ?_
  rintro e w1 ⟨v, rfl, hv, hg1⟩
  have HL1 := Hid.mk' (HLA.out w1 v hg1 hv)
  clear hg1 hv HLA
  go_wp2_with fail
  refine Calls.mono HL1.out ?_
  rintro e w2 ⟨rfl, h2⟩
  have H2 := Hid.mk' h2
  clear h2
  go_wp2
  go_ret
  exact ⟨rfl, H2.out⟩
theorem rpoke_arg (h : Rd w ro gx x) (z y : Int) (hyr : y ≤ 9223372036854775807) (hv : Bs w v ys) (hx : ¬ ((0 ≤ z ∧ z < (x.st.length : Int)) ∧ 0 ≤ y ∧ (ys.length : Int) ≤ 256 - y)) :
    Calls Try.prog 40 #[.pointer (some ⟨gx, 0, none⟩), .int .i64 z, .int .i64 y, v] w fun e w' => e = .returned (.int .i64 1) ∧ w' = w := by
  have HHX := Hid.mk' (rhas_any h z)
  obtain ⟨ao, cap, rfl, -⟩ := hv.gen
  have hl : ys.length ≤ 281474976710656 := hv.2.1
  clear h hv
  by_cases h1 : 0 ≤ z ∧ z < (x.st.length : Int)
  · rw [decide_eq_true h1] at HHX
    have hx2 : ¬ (0 ≤ y ∧ (ys.length : Int) ≤ 256 - y) := fun h2 => hx ⟨h1, h2⟩
    clear h1 hx
    generalize ys.length = l at *
    by_cases hy : y < 0
    · go_enter Try.func40, Try.ntmps40
      go_wp2_with fail
      refine Calls.mono HHX.out ?_
      rintro e w ⟨rfl, rfl⟩
      go_wp2
      go_ret
      exact ⟨rfl, rfl⟩
    · by_cases hy3 : 256 < y
      · have hy0 : ¬ (y < 0) := hy
        clear hx2 hy
        go_enter Try.func40, Try.ntmps40
        go_wp2_with fail
        refine Calls.mono HHX.out ?_
        rintro e w ⟨rfl, rfl⟩
        go_wp2
        go_ret
        exact ⟨rfl, rfl⟩
      · have hy0 : ¬ (y < 0) := hy
        have hw : IntKind.i64.wrap (256 - y) = 256 - y := wrap64 _ (by omega) (by omega)
        have hgt : 256 - y < (l : Int) := by omega
        clear hx2 hy
        go_enter Try.func40, Try.ntmps40
        go_wp2_with fail
        refine Calls.mono HHX.out ?_
        rintro e w ⟨rfl, rfl⟩
        go_wp2
        go_ret
        exact ⟨rfl, rfl⟩
  · rw [decide_eq_false h1] at HHX
    clear h1 hx
    generalize ys.length = l at *
    go_enter Try.func40, Try.ntmps40
    go_wp2_with fail
    refine Calls.mono HHX.out ?_
    rintro e w ⟨rfl, rfl⟩
    go_wp2
    go_ret
    exact ⟨rfl, rfl⟩
set_option maxRecDepth 100000 in
set_option maxHeartbeats 4000000 in
theorem rpoke_any (h : Rd w ro gx x) {b a : Nat} (hb : b < x.st.length) (hm : x.wt.length ≤ 100000) (hv : Bs w v ys) (ha : a + ys.length ≤ 256) :
    Calls Try.prog 40 #[.pointer (some ⟨gx, 0, none⟩), .int .i64 (b : Int), .int .i64 (a : Int), v] w fun e w' => e = .returned (.int .i64 0) ∧ RdTo w ro gx (x.laid b (pokeTo (x.now b) a ys ys.length)) w' := by
  have HHX := Hid.mk' (rhas_any h (b : Int))
  rw [decide_eq_true (by omega : (0 : Int) ≤ (b : Int) ∧ (b : Int) < (x.st.length : Int))] at HHX
  have HRE := Hid.mk' (rnow_any h hb hm)
  have HPW : Hid (∀ k, k ≤ ys.length → wf256 (pokeTo (x.now b) a ys k)) := fun k hk => pokeTo_wf (h.ok.now hb) hv.1 k hk (by omega)
  obtain ⟨C, hC⟩ : ∃ C, C = x.now b := ⟨_, rfl⟩
  rw [← hC] at HRE HPW ⊢
  have HLA : Hid (∀ w1 v xs, Grow w w1 → Ow w1 w.heap.size v xs → wf256 xs → Calls Try.prog 57 #[.pointer (some ⟨gx, 0, none⟩), .int .i64 (b : Int), v] w1 fun e w' => e = .returned (.tuple #[]) ∧ RdTo w ro gx (x.laid b xs) w') := fun w1 v xs hg hv hw => rlay_any (h.grow hg) hb hm (hg.mono (fun _ _ h => h.elim)) hv (fun k hk => h.top k (hv.ge k hk).1) hw
  have HV := Hid.mk' hv
  obtain ⟨ao, cap, rfl, -⟩ := hv.gen
  obtain ⟨l, hl⟩ : ∃ l, l = ys.length := ⟨_, rfl⟩
  have HL := Hid.mk' hl
  rw [← hl] at HV ha HPW ⊢
  have hw : IntKind.i64.wrap (256 - (a : Int)) = 256 - (a : Int) := wrap64 _ (by omega) (by omega)
  have hgt : ¬ (256 - (a : Int) < (l : Int)) := by omega
  have ha2 : ¬ (256 < (a : Int)) := by omega
  clear h hb hv hC hl hm
  go_enter Try.func40, Try.ntmps40
  go_wp2_with fail
  refine Calls.mono HHX.out ?_
  rintro e w ⟨rfl, rfl⟩
  go_wp2_with fail
  refine Calls.mono HRE.out ?_
  rintro e w1 ⟨u, rfl, hu1, hg1⟩
  have HCL : Hid (C.length = 256) := (HPW.out 0 (Nat.zero_le _)).1
  obtain ⟨g9, c9, R, rfl, hg9, -, -⟩ := hu1.opn (by rw [HCL.out]; omega)
  have HG9 := Hid.mk' hg9
  rw [HCL.out] at hu1 ⊢
  have HU1 := Hid.mk' hu1
  have HG1 := Hid.mk' hg1
  have HV1 := Hid.mk' (HV.out.but hg1 (fun _ _ _ h => h))
  have HNB : Hid (0 < l → (.slice ao l cap : Value).ownBlock ≠ some g9) := fun h0 => HV.out.own (by rw [← HL.out]; exact h0) HG9.out
  clear hg1 hu1 hg9
  go_wp2
  go_loopw [10] (fun iv wr => ∃ k : Nat, k ≤ l ∧ iv = .int .i64 k ∧ Ow wr w.heap.size (.slice (some ⟨g9, 0, none⟩) 256 c9) (pokeTo C a ys k) ∧ Bs wr (.slice ao l cap) ys ∧ Grow w wr) (fun iv _ => l - (intOf iv).toNat)
  case atStart => exact ⟨0, Nat.zero_le _, rfl, HU1.out, HV1.out, HG1.out⟩
  case round =>
    clear HU1 HV1 HG1
    obtain ⟨k, hkl, rfl, hUK, hVK, hGK⟩ := hrel
    have HUK := Hid.mk' hUK
    have HVK := Hid.mk' hVK
    have HGK := Hid.mk' hGK
    by_cases hlt : k < l
    · have hlti : (k : Int) < (l : Int) := by omega
      have hkx : k < ys.length := by rw [← HL.out]; exact hlt
      obtain ⟨h1, h2, ⟨rfl, -⟩ | ⟨h0, bb, off, cap', e, hcap, hbl, hcell⟩⟩ := hVK
      · simp at hkx
      simp only [Value.slice.injEq] at e
      obtain ⟨rfl, -, rfl⟩ := e
      have cy := hcell k hkx
      obtain ⟨y, hy⟩ : ∃ y, y = ys.getD k 0 := ⟨_, rfl⟩
      rw [← hy] at cy
      have hy256 : y < 256 := by rw [hy]; exact h1 _ (getD_mem ys k hkx)
      obtain ⟨z, hz⟩ : ∃ z, z = (pokeTo C a ys k).getD (a + k) 0 := ⟨_, rfl⟩
      have hpw := HPW.out k (by omega)
      have hz256 : z < 256 := by rw [hz]; exact hpw.2 _ (getD_mem _ _ (by rw [hpw.1]; omega))
      obtain ⟨g', c', R', e', -, hbk, -⟩ := hUK.opn (by rw [hpw.1]; omega)
      simp only [Value.slice.injEq, Option.some.injEq, Addr.mk.injEq, and_true] at e'
      obtain ⟨rfl, -, rfl⟩ := e'
      have hlz : a + k < (u8s (pokeTo C a ys k)).length := by rw [u8s_len, hpw.1]; omega
      have cx : wr.cell? ⟨g9, a + k, none⟩ = some (.int .u8 (z : Int)) := by rw [hbk.cell, List.getElem?_append_left hlz, u8s_get _ _ (by rw [hpw.1]; omega), hz]
      have HBK : Hid (∃ M, Blk wr g9 5 M ∧ a + k < M.length) := ⟨_, hbk, by rw [List.length_append]; omega⟩
      have hxor : bits .xor .u8 (z : Int) (y : Int) = ((z ^^^ y : Nat) : Int) := u8_xor_nat z y hz256 hy256
      obtain ⟨r, hre⟩ : ∃ r, r = z ^^^ y := ⟨_, rfl⟩
      rw [← hre] at hxor
      have HR256 : Hid (r < 256) := by show _ < _; rw [hre]; exact Nat.xor_lt_two_pow (n := 8) hz256 hy256
      have HNX : Hid (pokeTo C a ys (k + 1) = (pokeTo C a ys k).set (a + k) r) := by rw [hre, hz, hy]; rfl
      have hak : IntKind.i64.wrap ((a : Int) + (k : Int)) = ((a + k : Nat) : Int) := by
        rw [show (a : Int) + (k : Int) = ((a + k : Nat) : Int) by omega]; exact wrap64 _ (by omega) (by omega)
      have hak2 : ((a + k : Nat) : Int) < 256 := by omega
      have HPL : Hid ((pokeTo C a ys k).length = 256) := hpw.1
      obtain ⟨q, hq⟩ : ∃ q, q = a + k := ⟨_, rfl⟩
      have HQ : Hid (q < 256) := by show _ < _; omega
      rw [← hq] at cx hak hak2 HNX HBK
      have HNG : Hid (¬ bb = g9) := fun e => HNB.out (by omega) (by rw [e]; rfl)
      have HC : Hid (∀ w', Grow wr w' → w'.cell? ⟨g9, q, none⟩ = some (.int .u8 (z : Int)) ∧ w'.cell? ⟨bb, off + k, none⟩ = some (.int .u8 (y : Int))) := fun w' h => ⟨grow_cell h cx, grow_cell h cy⟩
      clear hUK hGK h1 h2 hcell hbl hy hz hpw hz256 hy256 hre hq h0 hkx hcap hbk hlz cx cy
      go_upto_region 7 with fail
      refine region_chain [([0, 1, 2, 3, 4, 5, 6, 7, 8, 9, 10, 11, 12, 13, 14, 15], 16)] [] (Grow wr) (Grow wr) (by kernel_rfl) (by kernel_rfl) (fun _ _ h k => h.trans k) (fun _ h => h) ((But.refl _ wr).drew) ?_
      intro ι hne X hX
      have d0 : ∀ x, (X x).cell? ⟨g9, q, none⟩ = some (.int .u8 (z : Int)) := fun x => (HC.out _ (hX x)).1
      have d1 : ∀ x, (X x).cell? ⟨bb, off + k, none⟩ = some (.int .u8 (y : Int)) := fun x => (HC.out _ (hX x)).2
      iterate 16 (refine still_step rfl (fun K hK => ?_); go_simp; refine hK _ ?_; clear hK K)
      refine still_nil ?_
      clear d0 d1 hX hne
      refine turn_run rfl rfl (fun _ w' => Ow w' w.heap.size (.slice (some ⟨g9, 0, none⟩) 256 c9) (pokeTo C a ys (k + 1)) ∧ Bs w' (.slice (some ⟨bb, off, none⟩) l cap) ys ∧ Grow w w') (fun _ _ => True) (fun _ _ _ h k => ⟨h.1.but k (fun _ _ _ h => h), h.2.1.but k (fun _ _ _ h => h), h.2.2.trans k⟩) (fun _ _ _ => trivial) (.inl (by kernel_rfl)) ?_ ?_
      · intro w4 h4
        obtain ⟨M, hM, hMl⟩ := HBK.out
        refine turn_store (v := .int .u8 (r : Int)) (g := g9) (i := q) (by kernel_rfl) rfl rfl rfl rfl (hM.but h4 (fun h => h)) hMl ⟨?_, ?_, ?_⟩
        · rw [HNX.out]
          exact Ow.setA (HUK.out.but h4 (fun _ _ _ h => h)) HPL.out (by rw [HPL.out]; exact HQ.out) HR256.out
        · exact (HVK.out.but h4 (fun _ _ _ h => h)).but (But.set1 _ _ _ _) (fun j hj _ e => by
            have : bb = j := by simpa [Value.ownBlock] using hj
            exact HNG.out (by rw [this]; exact e))
        · exact (HGK.out.trans h4).then (But.set1 _ _ _ _) (fun i hi e => by have := HG9.out; omega)
      rintro v5 - Y hY
      go_simp
      refine hY _ ?_
      clear hY Y
      intro ι hne X hX
      refine still_nil ?_
      clear hX hne
      rintro w5 ⟨h5, h6, h7⟩
      have H5 := Hid.mk' h5
      have H6 := Hid.mk' h6
      have H7 := Hid.mk' h7
      clear h5 h6 h7
      go_wp2
      exact ⟨⟨k + 1, by omega, by go_num, H5.out, H6.out, H7.out⟩, by simp [intOf]; omega⟩
    · have hlti : ¬ ((k : Int) < (l : Int)) := by omega
      obtain rfl : k = l := by omega
      have HL1 := Hid.mk' (HLA.out wr _ _ hGK hUK (HPW.out k (Nat.le_refl _)))
      clear hUK hVK hGK
      go_wp2_with fail
      refine Calls.mono HL1.out ?_
      rintro e w2 ⟨rfl, h2⟩
      have H2 := Hid.mk' h2
      clear h2
      go_wp2
      go_ret
      exact ⟨rfl, by have := HL.out; subst this; exact H2.out⟩
end
end Go.Proofs.Ytfgcbcopgikodaa
/- The reference: Snap. -/
namespace Go.Proofs.Ytfgcbcopgikodaa
open Go.RowKit

def Rdv.all (x : Rdv) : List (List Nat) := (List.range x.st.length).map x.now
def Rdv.snapped (x : Rdv) : Rdv := { x with im := x.im ++ [x.all] }
theorem infSS : (Try.prog.info? 39).map (fun i => (i.zero, i.size, i.bytes)) = some (some (.slice none 0 0), 1, 24) := by kernel_rfl
theorem ownsRow_sl {w : World} {base e s n : Nat} {v : Value} {xs : List Value} (h : w.ownsRow base e s v n xs) : ∃ a c, v = .slice a n c := by
  obtain ⟨-, ⟨e, h0⟩ | ⟨g', c', cu, e, -⟩⟩ := h
  · exact ⟨none, 0, by rw [e, h0]⟩
  · exact ⟨_, _, e⟩
section
variable {w w1 w' : World} {ro : Owner} {gx : Nat} {x : Rdv} {vs vq vc vw v v' : Value}
theorem RdM.snap (h : RdM w ro gx x vs vq vc vw) {L : List PicE} (hL : L.map (·.2) = x.im) (hrow : RowOf w (Is ro .imr) 39 1 vc L.length (L.map (·.1))) (hel : ∀ e ∈ L, ∃ M : List SbE, M.map (·.2) = e.2 ∧ RowOf w (Is ro .pic) 32 1 e.1 M.length (M.map (·.1)) ∧ ∀ f ∈ M, Bf w (Is ro .pic) f.1 f.2) (k : Grow w w1) {M : List SbE} (hM : M.map (·.2) = x.all) (hv : w1.ownsRow 0 32 1 v M.length (M.map (·.1))) (hvn : ∀ k, v.ownBlock = some k → w.heap.size ≤ k) (hMe : ∀ f ∈ M, Ow w1 w.heap.size f.1 f.2) (k2 : But (fun b => vc.ownBlock = some b ∨ b = gx) w1 w') (hrow' : w'.ownsRow 0 39 1 v' (L.length + 1) (L.map (·.1) ++ [v])) (ha : ∀ k, v'.ownBlock = some k → vc.ownBlock = some k ∨ w1.heap.size ≤ k) (hl : ∀ k, v'.ownBlock = some k → k < w'.heap.size) (hb : Blk w' gx 42 [vs, vq, .bool x.off, .int .i64 (x.arm : Int), .int .i64 (x.cnt : Int), v', vw]) : RdTo w ro gx x.snapped w' := by
  obtain ⟨rp, hrp⟩ : ∃ rp : Owner, rp = fun k => if w.heap.size ≤ k ∧ k < w1.heap.size then .pic else ro k := ⟨_, rfl⟩
  have rp1 : ∀ k, w.heap.size ≤ k → k < w1.heap.size → rp k = .pic := fun k h1 h2 => by rw [hrp]; exact if_pos ⟨h1, h2⟩
  have rp2 : ∀ k, ¬ (w.heap.size ≤ k ∧ k < w1.heap.size) → rp k = ro k := fun k h1 => by rw [hrp]; exact if_neg h1
  have hvl : ∀ k, vc.ownBlock = some k → k < w.heap.size := fun k hk => h.top.lt (by rw [show ro k = _ from hrow.inF k hk]; decide)
  have e1 : Ext ro rp := fun j hj => rp2 j (fun hh => by have := h.top.lt hj; omega)
  have hV : ∀ j, v'.ownBlock = some j → rp j = .none ∨ rp j = .imr := fun j hj => by
    rcases ha j hj with h1 | h1
    · have := hvl j h1
      exact .inr ((rp2 j (by omega)).trans (hrow.inF j h1))
    · exact .inl ((rp2 j (by omega)).trans (h.top j (Nat.le_trans k.size h1)))
  have e2 : Ext rp (tagV rp v' .imr) := Ext.tagV hV
  have hE := e1.trans e2
  have hF : Fresh w ro (tagV rp v' .imr) := fun j hj => by
    by_cases hq : v'.ownBlock = some j
    · rcases ha j hq with h1 | h1
      · rw [tagV_own hq] at hj
        exact absurd (hrow.inF j h1).symm hj
      · exact Nat.le_trans k.size h1
    · rw [tagV_other hq] at hj
      by_cases hh : w.heap.size ≤ j ∧ j < w1.heap.size
      · exact hh.1
      · exact absurd (rp2 j hh) hj
  have hT : Top w' (tagV rp v' .imr) := by
    refine Top.tagV (fun j hj => ?_) hl
    have := k2.size
    have := k.size
    exact (rp2 j (by omega)).trans (h.top j (by omega))
  have kk : But (fun b => vc.ownBlock = some b ∨ b = gx) w w' := (k.mono (fun _ _ h => h.elim)).trans k2
  have hR : ∀ {t : Tag}, t ≠ .imr → t ≠ .dev → ∀ b, ro b = t → ¬ (vc.ownBlock = some b ∨ b = gx) := fun q2 q3 b hb hh => by
    rcases hh with hh | hh
    · exact q2 (hb.symm.trans (hrow.inF b hh))
    · exact q3 (hb.symm.trans (by rw [hh]; exact h.tag))
  have hN : ∀ b, w.heap.size ≤ b → ¬ (vc.ownBlock = some b ∨ b = gx) := fun b hb hh => by
    rcases hh with hh | hh
    · have := hvl b hh; omega
    · have := h.blk.lt; omega
  have hP : ∀ j, w.heap.size ≤ j → j < w1.heap.size → tagV rp v' .imr j = .pic := fun j h1 h2 => e2.is (by decide) j (rp1 j h1 h2)
  refine ⟨kk.mono (fun b _ hh => ?_), tagV rp v' .imr, hF, vs, vq, v', vw, hT, hE.is (by decide) gx h.tag, hb, h.sto.but kk (fun j hj => hj.elim (hR (by decide) (by decide) j) (fun ⟨b, hb⟩ => hR (t := .row b) (by simp) (by simp) j hb)) hE, h.wai.but (by decide) kk (fun j hj => hj.elim (hR (by decide) (by decide) j) (hR (by decide) (by decide) j)) hE, ⟨L ++ [(v, x.all)], ?_, ⟨?_, fun j hj => tagV_own hj⟩, fun e he => ?_⟩, h.wri.but (by decide) kk (fun j hj => hj.elim (hR (by decide) (by decide) j) (hR (by decide) (by decide) j)) hE, ⟨h.ok.n1, h.ok.nb, h.ok.st, h.ok.wt, h.ok.wr, fun m hm => ?_⟩⟩
  · rcases hh with hh | hh
    · rw [show ro b = _ from hrow.inF b hh]; decide
    · rw [hh, h.tag]; decide
  · rw [List.map_append, hL]; rfl
  · rw [List.length_append, List.length_singleton, List.map_append]
    exact hrow'
  · rcases List.mem_append.1 he with he | he
    · obtain ⟨M0, h4, h5, h6⟩ := hel e he
      refine ⟨M0, h4, h5.but kk (fun j hj => hR (t := .pic) (by decide) (by decide) j hj) (hE.is (by decide)), fun f hf => ?_⟩
      have h7 := (h6 f hf).but kk (fun j hj => hR (t := .pic) (by decide) (by decide) j hj)
      exact ⟨h7.1, fun h0 j hj => hE.is (by decide) j (h7.2 h0 j hj)⟩
    · rw [show e = (v, x.all) by simpa using he]
      refine ⟨M, hM, ⟨ownsRow_but hv k2 (fun j hj => hN j (hvn j hj)), fun j hj => hP j (hvn j hj) (hv.lt j hj).2⟩, fun f hf => ?_⟩
      have h7 := (hMe f hf).but k2 (fun j hj _ => hN j ((hMe f hf).ge j hj).1)
      exact ⟨h7.bs, fun _ j hj => hP j ((hMe f hf).ge j hj).1 ((hMe f hf).ge j hj).2⟩
  · rcases List.mem_append.1 hm with hm | hm
    · exact h.ok.im m hm
    · rw [show m = x.all by simpa using hm]
      refine ⟨by show x.all.length = x.st.length; unfold Rdv.all; simp, fun c hc => ?_⟩
      obtain ⟨b, hb, rfl⟩ := List.mem_map.1 hc
      exact h.ok.now (List.mem_range.1 hb)
theorem rsnap_full (h : Rd w ro gx x) (hf : x.im.length = 8) :
    Calls Try.prog 43 #[.pointer (some ⟨gx, 0, none⟩)] w fun e w' => e = .returned (.tuple #[.int .i64 0, .int .i64 11]) ∧ w' = w := by
  obtain ⟨vs, vq, vc, vw, h⟩ := h
  obtain ⟨a, c, rfl⟩ := h.cop.len
  have c5 : w.cell? ⟨gx, 5, none⟩ = some (.slice a 8 c) := by rw [← hf]; exact h.blk.cell 5
  clear h hf
  go_enter Try.func43, Try.ntmps43
  go_wp2
  exact bodyPost_ret (results_tmp2 rfl _ _ _) rfl ⟨rfl, rfl⟩
/-- The row of images under way. -/
structure SnI (w : World) (x : Rdv) (i : Nat) (v : Value) (M : List SbE) (wr : World) : Prop where
  mp : M.map (·.2) = (List.range i).map x.now
  row : wr.ownsRow 0 32 1 v M.length (M.map (·.1))
  new : ∀ k, v.ownBlock = some k → w.heap.size ≤ k
  el : ∀ f ∈ M, Ow wr w.heap.size f.1 f.2
  ne : ∀ f ∈ M, ∀ k, v.ownBlock = some k → f.1.ownBlock ≠ some k
  grow : Grow w wr
set_option maxRecDepth 100000 in
set_option maxHeartbeats 4000000 in
theorem rsnap_any (h : Rd w ro gx x) (hf : x.im.length < 8) (hm : x.wt.length ≤ 100000) :
    Calls Try.prog 43 #[.pointer (some ⟨gx, 0, none⟩)] w fun e w' => e = .returned (.tuple #[.int .i64 (x.im.length : Int), .int .i64 0]) ∧ RdTo w ro gx x.snapped w' := by
  have HNO : Hid (∀ wr, Grow w wr → ∀ b, b < x.st.length → Calls Try.prog 46 #[.pointer (some ⟨gx, 0, none⟩), .int .i64 (b : Int)] wr fun e w' => ∃ v, e = .returned v ∧ Ow w' wr.heap.size v (x.now b) ∧ Grow wr w') := fun wr k b hb => rnow_any (h.grow k) hb hm
  have hok := h.ok
  obtain ⟨vs, vq, vc, vw, h⟩ := h
  have HD := Hid.mk' h
  obtain ⟨a5, c5', rfl⟩ := h.cop.len
  obtain ⟨a0, c0', rfl⟩ := h.sto.len
  obtain ⟨m, hme⟩ : ∃ m, m = x.im.length := ⟨_, rfl⟩
  obtain ⟨n, hne⟩ : ∃ n, n = x.st.length := ⟨_, rfl⟩
  rw [← hme] at hf ⊢
  have HM := Hid.mk' hme
  have HN := Hid.mk' hne
  have HMB : Hid (m < 8) := hf
  have hm8 : ((m : Int) == 8) = false := by
    have : ¬ ((m : Int) = 8) := by omega
    simpa using this
  have hnb : (n : Int) ≤ 65536 := by have := hok.nb; omega
  have HC0 : Hid (∀ wr, Grow w wr → wr.cell? ⟨gx, 0, none⟩ = some (.slice a0 n c0')) := fun wr k => by rw [hne]; exact (h.blk.but k (fun h => h)).cell 0
  have c5 : w.cell? ⟨gx, 5, none⟩ = some (.slice a5 m c5') := by rw [hme]; exact h.blk.cell 5
  clear h hm hok hme hne hf
  go_enter Try.func43, Try.ntmps43
  go_wp2
  clear c5
  go_loopw [4, 5] (fun tv iv wr => ∃ (i : Nat) (v : Value) (M : List SbE), i ≤ n ∧ iv = .int .i64 i ∧ v = tv ∧ SnI w x i v M wr) (fun _ iv _ => n - (intOf iv).toNat)
  case atStart => exact ⟨0, .slice none 0 0, [], Nat.zero_le _, rfl, rfl, rfl, World.ownsRow_nil _ _ _ _, (fun k hk => by cases hk), (fun f hf => absurd hf List.not_mem_nil), (fun f hf => absurd hf List.not_mem_nil), But.refl _ _⟩
  case round =>
    rename_i tv
    obtain ⟨i, v, M, hin, rfl, rfl, hI⟩ := hrel
    have HI := Hid.mk' hI
    have c0 := HC0.out wr hI.grow
    by_cases hlt : i < n
    · have hlti : (i : Int) < (n : Int) := by omega
      have HCA := Hid.mk' (HNO.out wr hI.grow i (by rw [← HN.out]; exact hlt))
      have HML : Hid (M.length = i) := by
        have := congrArg List.length hI.mp
        rw [List.length_map, List.length_map, List.length_range] at this
        exact this
      clear hI
      go_wp2_with fail
      refine Calls.mono HCA.out ?_
      rintro e w1 ⟨u, rfl, hu, hg⟩
      obtain ⟨ua, un, uc, rfl⟩ := hu.bs.sl
      have HU := Hid.mk' hu
      have HG := Hid.mk' hg
      have HR1 := Hid.mk' (ownsRow_grow HI.out.row hg)
      have HAL : Hid (Grow w1 (w1.alloc (.cells #[.slice ua un uc] 32))) := (But.refl _ w1).alloc _
      have HBL : Hid (Blk (w1.alloc (.cells #[.slice ua un uc] 32)) w1.heap.size 32 [.slice ua un uc]) := Blk.new (L := [.slice ua un uc]) rfl
      clear hu hg c0
      go_wp2_with (first
        | (refine wpList_run rfl (exec_row1 Try.underlying39 infS (by decide) (by decide) rfl rfl rfl) ?_)
        | (refine wpList_some rfl (exec_append (v := v) (n := M.length) (xs := M.map (·.1)) (news := [.slice ua un uc]) Try.underlying39 infS rfl (by decide) rfl rfl (ownsRow_grow HR1.out HAL.out) rfl rfl (fun j u hj => HBL.out.cells0 j u hj) (fun u hu => by rw [show u = .slice ua un uc by simpa using hu]; rfl) (by have := HML.out; omega) (by decide)) ?_; intro v4 w4 hap)
        | fail)
      have hG1 : Grow w w1 := HI.out.grow.trans HG.out
      have hG2 : Grow w (w1.alloc (.cells #[.slice ua un uc] 32)) := hG1.trans HAL.out
      have hs1 := HAL.out.size
      have hU1 : ∀ k, (.slice ua un uc : Value).ownBlock = some k → wr.heap.size ≤ k ∧ k < w1.heap.size := fun k hk => HU.out.ge k hk
      have hvl : ∀ k, v.ownBlock = some k → k < wr.heap.size := fun k hk => (HI.out.row.lt k hk).2
      have hsw := HI.out.grow.size
      refine ⟨⟨i + 1, v4, M ++ [(.slice ua un uc, x.now i)], by omega, by go_num, rfl, ?_, ?_, fun k hk => ?_, fun f hf => ?_, fun f hf k hk => ?_, ?_⟩, by simp [intOf]; omega⟩
      · rw [List.map_append, HI.out.mp, List.range_succ, List.map_append]; rfl
      · rw [List.length_append, List.length_singleton, List.map_append]
        exact hap.own
      · rcases hap.at' with e | e
        · exact HI.out.new k (by rw [← e]; exact hk)
        · rw [e] at hk
          cases hk
          exact hG2.size
      · rcases List.mem_append.1 hf with hf | hf
        · exact (((HI.out.el f hf).but HG.out (fun _ _ _ h => h)).but HAL.out (fun _ _ _ h => h)).but hap.but (fun j hj _ e => HI.out.ne f hf j e hj)
        · rw [show f = (.slice ua un uc, x.now i) by simpa using hf]
          exact ((HU.out.mono hsw).but HAL.out (fun _ _ _ h => h)).but hap.but (fun j hj _ e => by have := (hU1 j hj).1; have := hvl j e; omega)
      · intro hfk
        rcases List.mem_append.1 hf with hf | hf
        · rcases hap.at' with e | e
          · exact HI.out.ne f hf k (by rw [← e]; exact hk) hfk
          · rw [e] at hk
            cases hk
            have := ((HI.out.el f hf).ge _ hfk).2
            have := HG.out.size
            omega
        · rw [show f = (.slice ua un uc, x.now i) by simpa using hf] at hfk
          have h9 := hU1 k hfk
          rcases hap.at' with e | e
          · have := hvl k (by rw [← e]; exact hk); omega
          · rw [e] at hk
            cases hk
            omega
      · exact hG2.then hap.but (fun j hj e => by have := HI.out.new j e; omega)
    · have hlti : ¬ ((i : Int) < (n : Int)) := by omega
      obtain rfl : i = n := by omega
      have hG := hI.grow
      have hbk := HD.out.blk.but hG (fun h => h)
      rw [← HM.out] at hbk
      have HBK := Hid.mk' hbk
      obtain ⟨L0, hL0, hrow0, hel0⟩ := HD.out.cop.ex
      have hl0 : L0.length = m := by rw [HM.out, ← hL0, List.length_map]
      have HL0 := Hid.mk' hL0
      have HROW0 := Hid.mk' hrow0
      have HEL0 := Hid.mk' hel0
      have HLM := Hid.mk' hl0
      have HR0 : Hid (wr.ownsRow 0 39 1 (.slice a5 m c5') m (L0.map (·.1))) := by
        have h5 := ownsRow_grow hrow0.own hG
        rw [hl0, ← HM.out] at h5
        exact h5
      have c5 : wr.cell? ⟨gx, 5, none⟩ = some (.slice a5 m c5') := hbk.cell 5
      have HNI : Hid (¬ (.slice a5 m c5' : Value).ownBlock = some gx) := fun e => by
        have h1 : ro gx = .imr := HROW0.out.inF gx (by rw [← HM.out]; exact e)
        rw [HD.out.tag] at h1; cases h1
      obtain ⟨va, vn, vk, rfl⟩ : ∃ a n k, v = .slice a n k := by obtain ⟨-, ⟨e, -⟩ | ⟨g', c', cu, e, -⟩⟩ := hI.row <;> exact ⟨_, _, _, e⟩
      have HAL : Hid (Grow wr (wr.alloc (.cells #[.slice va vn vk] 39))) := (But.refl _ wr).alloc _
      have HBL : Hid (Blk (wr.alloc (.cells #[.slice va vn vk] 39)) wr.heap.size 39 [.slice va vn vk]) := Blk.new (L := [.slice va vn vk]) rfl
      clear hI hG hbk hL0 hrow0 hel0 hl0
      go_wp2_with (first
        | (refine wpList_run rfl (exec_row1 Try.underlying40 infSS (by decide) (by decide) rfl rfl rfl) ?_)
        | (refine wpList_some rfl (exec_append (v := .slice a5 m c5') (n := m) (xs := L0.map (·.1)) (news := [.slice va vn vk]) Try.underlying40 infSS rfl (by decide) rfl rfl (ownsRow_grow HR0.out HAL.out) rfl rfl (fun j u hj => HBL.out.cells0 j u hj) (fun u hu => by rw [show u = .slice va vn vk by simpa using hu]; rfl) (by have := HMB.out; omega) (by decide)) ?_; intro v4 w4 hap; have hbk4 := (HBK.out.but HAL.out (fun h => h)).but hap.but HNI.out; have f54 : w4.frozen? ⟨gx, 5, none⟩ = false := hbk4.free 5; have c54 : w4.cell? ⟨gx, 5, none⟩ = some (.slice a5 m c5') := hbk4.cell 5; obtain ⟨a4, k4, rfl⟩ := ownsRow_sl hap.own)
        | fail)
      refine bodyPost_ret (results_tmp2 rfl _ _ _) rfl ⟨by simp only [Ending.returned.injEq, Value.tuple.injEq]; have := HMB.out; first | go_num | (simp; first | go_num | (unfold RowKit.wrap64; omega)), ?_⟩
      have hne4 : ¬ (.slice a4 (m + 1) k4 : Value).ownBlock = some gx := fun e => by
        rcases hap.at' with h | h
        · exact HNI.out (h.symm.trans e)
        · rw [h] at e
          have e2 := Option.some.inj e
          have := HBK.out.lt
          have := HAL.out.size
          omega
      refine HD.out.snap (v := .slice va vn vk) (v' := .slice a4 (m + 1) k4) (M := M) HL0.out HROW0.out HEL0.out (HI.out.grow.trans HAL.out) (by rw [HI.out.mp, HN.out]; rfl) (ownsRow_grow HI.out.row HAL.out) HI.out.new (fun f hf => (HI.out.el f hf).but HAL.out (fun _ _ _ h => h)) ?_ ?_ ?_ ?_ (hbk4.set 5 (.slice a4 (m + 1) k4))
      · rw [← HM.out]
        exact (hap.but.mono (fun _ _ h => .inl h)).trans ((But.set1 _ _ _ _).mono (fun _ _ h => .inr h))
      · rw [HLM.out]
        exact ownsRow_but hap.own (But.set1 _ _ _ _) (fun j hj e => hne4 (by rw [← e]; exact hj))
      · intro k hk
        rw [← HM.out]
        rcases hap.at' with h | h
        · exact .inl (h.symm.trans hk)
        · rw [h] at hk
          have e2 := Option.some.inj hk
          exact .inr (by omega)
      · intro k hk
        have := hap.lt k hk
        simpa using this
end
end Go.Proofs.Ytfgcbcopgikodaa
/- The reference: SameWritten, of two rows that tell the same. -/
namespace Go.Proofs.Ytfgcbcopgikodaa
open Go.RowKit

structure TwR (w : World) (v : Value) (L : List TlE) : Prop where
  row : w.ownsRow 0 58 2 v L.length (L.flatMap tlc)
  el : ∀ e ∈ L, Bs w e.2 e.1.2
section
variable {w : World} {v u : Value} {L M : List TlE}
theorem TwR.but {R : Nat → Prop} {w' : World} (h : TwR w v L) (k : But R w w') (hr : ∀ j, R j → False) : TwR w' v L :=
  ⟨ownsRow_but h.row k (fun j _ e => hr j e), fun e he => (h.el e he).but k (fun j _ _ e => hr j e)⟩
theorem TwR.at (h : TwR w v L) {i : Nat} (hi : i < L.length) : ∃ g c, v = .slice (some ⟨g, 0, none⟩) L.length c ∧ w.cell? ⟨g, i * 2, none⟩ = some (.int .i64 (L[i].1.1 : Int)) ∧ w.cell? ⟨g, i * 2 + 1, none⟩ = some L[i].2 := by
  obtain ⟨ao, c, e, h4⟩ := (⟨h.row, fun _ _ => trivial⟩ : RowOf w (fun _ => True) 58 2 v L.length (L.flatMap tlc)).shape
  obtain ⟨g, rfl, -, -, h6⟩ := h4 (by omega)
  exact ⟨g, c, e, h6 (i * 2) _ (flat_at L (fun e _ => tlc_len e) i L[i] 0 _ (List.getElem?_eq_getElem hi) rfl), h6 (i * 2 + 1) _ (flat_at L (fun e _ => tlc_len e) i L[i] 1 _ (List.getElem?_eq_getElem hi) rfl)⟩
set_option maxRecDepth 100000 in
theorem rsame_true (h1 : TwR w v L) (h2 : TwR w u M) (he : L.map (·.1) = M.map (·.1)) (hm : L.length ≤ 100000) :
    Calls Try.prog 13 #[v, u] w fun e w' => e = .returned (.bool true) ∧ Grow w w' := by
  have hl : M.length = L.length := by have := congrArg List.length he; rw [List.length_map, List.length_map] at this; omega
  obtain ⟨av, cv, rfl⟩ := ownsRow_sl h1.row
  obtain ⟨au, cu, rfl⟩ := ownsRow_sl h2.row
  rw [hl] at h2
  rw [hl]
  have H1 := Hid.mk' h1
  have H2 : Hid (TwR w (.slice au M.length cu) M) := by rw [hl]; exact h2
  have HE := Hid.mk' he
  obtain ⟨m, hme⟩ : ∃ m, m = L.length := ⟨_, rfl⟩
  have HML := Hid.mk' hl
  have HME := Hid.mk' hme
  rw [← hme] at hm ⊢
  have hmb : (m : Int) ≤ 100000 := by omega
  clear h1 h2 he hl hme
  go_enter Try.func13, Try.ntmps13
  go_wp2
  go_loopw [5] (fun iv wr => ∃ (i : Nat), i ≤ m ∧ iv = .int .i64 i ∧ Grow w wr) (fun iv _ => m - (intOf iv).toNat)
  case atStart => exact ⟨0, Nat.zero_le _, rfl, But.refl _ _⟩
  case round =>
    obtain ⟨i, him, rfl, hG⟩ := hrel
    have HG := Hid.mk' hG
    by_cases hlt : i < m
    · have hlti : (i : Int) < (m : Int) := by omega
      have hiL : i < L.length := by rw [← HME.out]; exact hlt
      have hiM : i < M.length := by rw [HML.out]; exact hiL
      obtain ⟨g1, c1, e1, q1, q2⟩ := H1.out.at hiL
      obtain ⟨g2, c2, e2, q3, q4⟩ := H2.out.at hiM
      simp only [Value.slice.injEq] at e1 e2
      obtain ⟨rfl, -, rfl⟩ := e1
      obtain ⟨rfl, -, rfl⟩ := e2
      have hee : L[i].1 = M[i].1 := by
        have h5 := congrArg (fun l => l[i]?) HE.out
        simp only [List.getElem?_map, List.getElem?_eq_getElem hiL, List.getElem?_eq_getElem hiM, Option.map_some, Option.some.injEq] at h5
        exact h5
      have b1 := H1.out.el L[i] (List.getElem_mem hiL)
      have b2 := H2.out.el M[i] (List.getElem_mem hiM)
      rw [← hee] at q3 b2
      obtain ⟨b, hb⟩ : ∃ b, b = L[i].1.1 := ⟨_, rfl⟩
      obtain ⟨xs, hxs⟩ : ∃ xs, xs = L[i].1.2 := ⟨_, rfl⟩
      obtain ⟨u1, hu1⟩ : ∃ u1, u1 = L[i].2 := ⟨_, rfl⟩
      obtain ⟨u2, hu2⟩ : ∃ u2, u2 = M[i].2 := ⟨_, rfl⟩
      rw [← hb] at q1 q3
      rw [← hxs, ← hu1] at b1
      rw [← hxs, ← hu2] at b2
      rw [← hu1] at q2
      rw [← hu2] at q4
      have HSA : Hid (∀ w', Grow wr w' → Calls Try.prog 21 #[u1, u2] w' fun e w'' => e = .returned (.bool true) ∧ Grow w' w'') := fun w' k => by
        refine (same_any ((b1.but hG (fun _ _ _ h => h)).but k (fun _ _ _ h => h)) ((b2.but hG (fun _ _ _ h => h)).but k (fun _ _ _ h => h))).mono ?_
        rintro e w'' ⟨rfl, d, rfl⟩
        exact ⟨by simp, (But.refl _ _).drewN⟩
      have HC : Hid (∀ w', Grow wr w' → w'.cell? ⟨g1, i * 2, none⟩ = some (.int .i64 (b : Int)) ∧ w'.cell? ⟨g1, i * 2 + 1, none⟩ = some u1 ∧ w'.cell? ⟨g2, i * 2, none⟩ = some (.int .i64 (b : Int)) ∧ w'.cell? ⟨g2, i * 2 + 1, none⟩ = some u2) := fun w' k => ⟨grow_cell (hG.trans k) q1, grow_cell (hG.trans k) q2, grow_cell (hG.trans k) q3, grow_cell (hG.trans k) q4⟩
      clear hG hiL hiM q1 q2 q3 q4 hee b1 b2 hb hxs hu1 hu2
      go_upto_region 6 with fail
      refine region_chain [] [0, 1, 2, 3, 4, 5, 6, 7, 8, 9, 10, 11, 12, 13, 14, 15, 16, 17, 18, 19, 20, 21, 22, 23, 24] (Grow wr) (Grow wr) (by kernel_rfl) (by kernel_rfl) (fun _ _ h k => h.trans k) (fun _ h => h) ((But.refl _ wr).drew) ?_
      intro ι hne X hX
      have d0 : ∀ x, (X x).cell? ⟨g1, i * 2, none⟩ = some (.int .i64 (b : Int)) := fun x => (HC.out _ (hX x)).1
      have d1 : ∀ x, (X x).cell? ⟨g1, i * 2 + 1, none⟩ = some u1 := fun x => (HC.out _ (hX x)).2.1
      have d2 : ∀ x, (X x).cell? ⟨g2, i * 2, none⟩ = some (.int .i64 (b : Int)) := fun x => (HC.out _ (hX x)).2.2.1
      have d3 : ∀ x, (X x).cell? ⟨g2, i * 2 + 1, none⟩ = some u2 := fun x => (HC.out _ (hX x)).2.2.2
      iterate 22 (refine still_step rfl (fun K hK => ?_); go_simp; refine hK _ ?_; clear hK K)
      refine still_call rfl (.bool true) 21 #[u1, u2] rfl (fun x => by kernel_rfl) (fun x => HSA.out _ (hX x)) ?_
      intro K hK; go_simp; refine hK _ ?_; clear hK K
      iterate 2 (refine still_step rfl (fun K hK => ?_); go_simp; refine hK _ ?_; clear hK K)
      refine still_nil ?_
      clear d0 d1 d2 d3 hX hne
      intro w5 h5
      have H5 := Hid.mk' (HG.out.trans h5)
      clear h5
      go_wp2
      exact ⟨⟨i + 1, by omega, by go_num, H5.out⟩, by simp [intOf]; omega⟩
    · have hlti : ¬ ((i : Int) < (m : Int)) := by omega
      clear hG
      go_wp2
      go_ret
      exact ⟨rfl, HG.out⟩
end
end Go.Proofs.Ytfgcbcopgikodaa
/- The reference: New. -/
namespace Go.Proofs.Ytfgcbcopgikodaa
open Go.RowKit

def Rdv.new (n : Nat) : Rdv := { st := List.replicate n z256, wt := [], off := false, arm := 0, cnt := 0, im := [], wr := [] }
section
variable {w w' wr : World} {ro ro' : Owner} {gx : Nat} {v v' u : Value} {t t2 : Tag} {st : List (List Nat)} {xs : List Nat}
theorem tags3 (h : Top w ro) (hs : w.heap.size ≤ w'.heap.size) (hv : ∀ k, v.ownBlock = some k → ro k = t) (hvl : ∀ k, v.ownBlock = some k → k < w.heap.size) (ha : ∀ k, v'.ownBlock = some k → v.ownBlock = some k ∨ (w.heap.size ≤ k ∧ u.ownBlock ≠ some k)) (hl : ∀ k, v'.ownBlock = some k → k < w'.heap.size) (hu : ∀ k, u.ownBlock = some k → w.heap.size ≤ k ∧ k < w'.heap.size) :
    ∃ ro', Ext ro ro' ∧ Fresh w ro ro' ∧ Top w' ro' ∧ (∀ k, v'.ownBlock = some k → ro' k = t) ∧ (∀ k, u.ownBlock = some k → ro' k = t2) := by
  have f1 : Fresh w ro (tagV ro u t2) := (Fresh.refl w ro).tagV (fun k hk => .inl (hu k hk).1)
  have e1 : Ext ro (tagV ro u t2) := Ext.tagV (fun k hk => .inl (h k (hu k hk).1))
  have t1 : Top w' (tagV ro u t2) := (h.grow hs).tagV (fun k hk => (hu k hk).2)
  have hne : ∀ k, v'.ownBlock = some k → u.ownBlock ≠ some k := fun k hk => by
    rcases ha k hk with h1 | ⟨-, h1⟩
    · intro h2; have := hvl k h1; have := (hu k h2).1; omega
    · exact h1
  refine ⟨tagV (tagV ro u t2) v' t, e1.trans (Ext.tagV (fun k hk => ?_)), f1.tagV (fun k hk => (ha k hk).elim (fun e => .inr (hv k e)) (fun e => .inl e.1)), t1.tagV hl, fun k hk => tagV_own hk, fun k hk => ?_⟩
  · rw [tagV_other (hne k hk)]
    exact (ha k hk).elim (fun e => .inr (hv k e)) (fun e => .inl (h k e.1))
  · rw [tagV_other (fun e => hne k e hk), tagV_own hk]
/-- A device under way. -/
structure NwI (w : World) (gx i : Nat) (v : Value) (ro : Owner) (L : List SbE) (wr : World) : Prop where
  top : Top wr ro
  tag : ro gx = .dev
  blk : Blk wr gx 42 [v, .slice none 0 0, .bool false, .int .i64 0, .int .i64 0, .slice none 0 0, .slice none 0 0]
  mp : L.map (·.2) = List.replicate i z256
  row : RowOf wr (Is ro .sto) 32 1 v L.length (L.map (·.1))
  el : ∀ b e, L[b]? = some e → Ow wr 0 e.1 e.2 ∧ ∀ k, e.1.ownBlock = some k → ro k = .row b
  new : ∀ k, ro k ≠ .none → w.heap.size ≤ k
  grow : Grow w wr
theorem NwI.len {i : Nat} {L : List SbE} (h : NwI w gx i v ro L wr) : L.length = i := by
  have := congrArg List.length h.mp
  rwa [List.length_map, List.length_replicate] at this
theorem NwI.add {i : Nat} {L : List SbE} (h : NwI w gx i v ro L wr) (k : But (fun b => v.ownBlock = some b ∨ b = gx) wr w') (hrow : w'.ownsRow 0 32 1 v' (i + 1) (L.map (·.1) ++ [u])) (ha : ∀ k, v'.ownBlock = some k → v.ownBlock = some k ∨ (wr.heap.size ≤ k ∧ u.ownBlock ≠ some k)) (hl : ∀ k, v'.ownBlock = some k → k < w'.heap.size) (hu : Ow w' wr.heap.size u z256) (hb : Blk w' gx 42 [v', .slice none 0 0, .bool false, .int .i64 0, .int .i64 0, .slice none 0 0, .slice none 0 0]) :
    ∃ ro' L', NwI w gx (i + 1) v' ro' L' w' := by
  have hvl : ∀ k, v.ownBlock = some k → k < wr.heap.size := fun k hk => h.top.lt (by rw [show ro k = _ from h.row.inF k hk]; decide)
  obtain ⟨ro', h1, h2, h3, h4, h5⟩ := tags3 (u := u) (t2 := .row i) h.top k.size (fun k hk => h.row.inF k hk) hvl ha hl (fun k hk => hu.ge k hk)
  have hR : ∀ {t : Tag}, t ≠ .sto → t ≠ .dev → ∀ b, ro b = t → ¬ (v.ownBlock = some b ∨ b = gx) := fun q2 q3 b hb hh => by
    rcases hh with hh | hh
    · exact q2 (hb.symm.trans (h.row.inF b hh))
    · exact q3 (hb.symm.trans (by rw [hh]; exact h.tag))
  refine ⟨ro', L ++ [(u, z256)], h3, h1.is (by decide) gx h.tag, hb, ?_, ⟨?_, h4⟩, fun b e he => ?_, fun j hj => ?_, ?_⟩
  · rw [List.map_append, h.mp, List.replicate_succ']; rfl
  · rw [List.length_append, List.length_singleton, h.len, List.map_append]
    exact hrow
  · rcases Nat.lt_or_ge b L.length with hb | hb
    · rw [List.getElem?_append_left hb] at he
      obtain ⟨q1, q2⟩ := h.el b e he
      exact ⟨q1.but k (fun j hj _ => hR (t := .row b) (by simp) (by simp) j (q2 j hj)), fun j hj => h1.is (t := .row b) (by simp) j (q2 j hj)⟩
    · rw [List.getElem?_append_right hb] at he
      have hbe : b - L.length = 0 := by
        rcases Nat.eq_zero_or_pos (b - L.length) with h0 | h0
        · exact h0
        · rw [List.getElem?_eq_none (by simp; omega)] at he; cases he
      rw [hbe] at he
      cases he
      have : b = i := by have := h.len; omega
      subst this
      exact ⟨hu.mono (Nat.zero_le _), fun j hj => h5 j hj⟩
  · by_cases hq : ro' j = ro j
    · exact h.new j (by rw [← hq]; exact hj)
    · exact Nat.le_trans h.grow.size (h2 j hq)
  · refine h.grow.then k (fun j hj hh => ?_)
    rcases hh with hh | hh
    · have := h.new j (by rw [show ro j = _ from h.row.inF j hh]; decide); omega
    · have := h.new j (by rw [hh, h.tag]; decide); omega
theorem NwI.done {n : Nat} {L : List SbE} (h : NwI w gx n v ro L wr) (h1 : 1 ≤ n) (h2 : n ≤ 65536) : Rd wr ro gx (Rdv.new n) := by
  refine ⟨v, .slice none 0 0, .slice none 0 0, .slice none 0 0, h.top, h.tag, h.blk, ⟨L, h.mp, h.row, h.el⟩, ⟨[], rfl, RowOf.nil _ _ _ _, fun e he => absurd he List.not_mem_nil⟩, ⟨[], rfl, RowOf.nil _ _ _ _, fun e he => absurd he List.not_mem_nil⟩, ⟨[], rfl, RowOf.nil _ _ _ _, fun e he => absurd he List.not_mem_nil⟩, ?_⟩
  refine ⟨by show 1 ≤ (List.replicate n z256).length; rw [List.length_replicate]; exact h1, by show (List.replicate n z256).length ≤ _; rw [List.length_replicate]; exact h2, fun c hc => ?_, fun e he => absurd he List.not_mem_nil, fun e he => absurd he List.not_mem_nil, fun e he => absurd he List.not_mem_nil⟩
  rw [List.eq_of_mem_replicate hc]
  exact ⟨by unfold z256; exact List.length_replicate, fun z hz => by rw [show z = 0 from List.eq_of_mem_replicate hz]; omega⟩
theorem zDevR (w : World) : (zeroValue 42).run Try.prog w = .ok (.agg #[.slice none 0 0, .slice none 0 0, .bool false, .int .i64 0, .int .i64 0, .slice none 0 0, .slice none 0 0]) w := by kernel_rfl
structure RNewIs (w : World) (n : Nat) (e : Ending) (w' : World) : Prop where
  ex : ∃ gx ro, e = .returned (.pointer (some ⟨gx, 0, none⟩)) ∧ (∀ k, ro k ≠ .none → w.heap.size ≤ k) ∧ Rd w' ro gx (Rdv.new n)
  grow : Grow w w'
set_option maxRecDepth 100000 in
set_option maxHeartbeats 4000000 in
theorem rnew_any (w : World) {n : Nat} (h1 : 1 ≤ n) (h2 : n ≤ 65536) :
    Calls Try.prog 29 #[.int .i64 (n : Int)] w (RNewIs w n) := by
  have hn1 : ¬ ((n : Int) < 1) := by omega
  have hn2 : ¬ (65536 < (n : Int)) := by omega
  have hnb : (n : Int) ≤ 65536 := by omega
  have H1 := Hid.mk' h1
  have H2 := Hid.mk' h2
  obtain ⟨gx, hgx⟩ : ∃ gx, gx = w.heap.size := ⟨_, rfl⟩
  have HI0 : Hid (NwI w gx 0 (.slice none 0 0) (tagAt (fun _ => .none) gx .dev) [] (w.alloc (.cells #[.slice none 0 0, .slice none 0 0, .bool false, .int .i64 0, .int .i64 0, .slice none 0 0, .slice none 0 0] 42))) := by
    refine ⟨?_, tagAt_own, ?_, rfl, RowOf.nil _ _ _ _, fun b e he => by simp at he, fun k hk => ?_, (But.refl _ w).alloc _⟩
    · exact Top.tagAt (fun _ _ => rfl) (by rw [hgx]; simp)
    · rw [hgx]
      exact Blk.new (L := [.slice none 0 0, .slice none 0 0, .bool false, .int .i64 0, .int .i64 0, .slice none 0 0, .slice none 0 0]) rfl
    · by_cases hq : k = gx
      · rw [hq, hgx]; exact Nat.le_refl _
      · exact absurd (by unfold tagAt; rw [if_neg hq]) hk
  have HGX := Hid.mk' hgx
  clear h1 h2 hgx
  go_enter Try.func29, Try.ntmps29
  go_wp2
  rw [← HGX.out]
  go_loopw [4] (fun iv wr => ∃ (i : Nat) (v : Value) (ro : Owner) (L : List SbE), i ≤ n ∧ iv = .int .i64 i ∧ NwI w gx i v ro L wr) (fun iv _ => n - (intOf iv).toNat)
  case atStart => exact ⟨0, _, _, _, Nat.zero_le _, rfl, HI0.out⟩
  case round =>
    obtain ⟨i, v, ro, L, hin, rfl, hI⟩ := hrel
    have HI := Hid.mk' hI
    by_cases hlt : i < n
    · have hlti : (i : Int) < (n : Int) := by omega
      have HLL := Hid.mk' hI.len
      obtain ⟨va, vc, rfl⟩ := ownsRow_sl hI.row.own
      obtain ⟨m, hm⟩ : ∃ m, m = L.length := ⟨_, rfl⟩
      rw [← hm] at hI HI
      have HM : Hid (m = i) := by show _ = _; rw [hm]; exact HLL.out
      have HBK := Hid.mk' hI.blk
      have HRO : Hid (wr.ownsRow 0 32 1 (.slice va m vc) m (L.map (·.1))) := by rw [hm]; rw [hm] at hI; exact hI.row.own
      have HVE : Hid (¬ (.slice va m vc : Value).ownBlock = some gx) := fun e => by
        have h1 : ro gx = .sto := HI.out.row.inF gx e
        rw [HI.out.tag] at h1; cases h1
      have HVL : Hid (∀ k, (.slice va m vc : Value).ownBlock = some k → k < wr.heap.size) := fun k hk => (HRO.out.lt k hk).2
      clear hI hm
      go_upto_region 7 with fail
      refine region_chain [([0, 1, 2, 3, 4], 5), ([], 6), ([], 7), ([8, 9], 10)] [] (But (fun k => (.slice va m vc : Value).ownBlock = some k) wr) (Grow wr) (by kernel_rfl) (by kernel_rfl) (fun _ _ h k => h.trans k) (fun _ h => h.mono (fun _ _ h => h.elim)) ((But.refl _ wr).drew) ?_
      intro ι hne X hX
      have c1 : ∀ x, (X x).cell? ⟨gx, 0, none⟩ = some (.slice va m vc) := fun x => (HBK.out.but (hX x) HVE.out).cell 0
      iterate 5 (refine still_step rfl (fun K hK => ?_); go_simp; refine hK _ ?_; clear hK K)
      refine still_nil ?_
      clear c1 hX hne
      refine turn_run rfl rfl (fun u w' => Grow wr w' ∧ Ow w' wr.heap.size u z256) (fun _ => But (fun k => (.slice va m vc : Value).ownBlock = some k) wr) (fun u w1 w2 h k => ⟨h.1.trans k, h.2.but k (fun _ _ _ h => h)⟩) (fun u w1 h => h.1.mono (fun _ _ h => h.elim)) (.inr (fun _ _ h => h)) ?_ ?_
      · intro w4 h4
        refine ⟨_, _, .inl (exec_make rfl rfl rfl (make_b w4 256 (by omega))), h4.trans ((But.refl _ w4).alloc _), ?_⟩
        have h5 : Blk (w4.alloc (.cells (u8s (List.replicate 256 0)).toArray 5)) w4.heap.size 5 (u8s (List.replicate 256 0) ++ []) := by rw [List.append_nil]; exact Blk.new rfl
        have h6 := Ow.shu (base := wr.heap.size) (cap := 256) h5 h4.size (fun z hz => by rw [show z = 0 from List.eq_of_mem_replicate hz]; omega) (by rw [List.length_replicate]; omega) (by rw [List.length_replicate]; rfl) (by rw [List.length_replicate]; omega) (by unfold maxLen; omega)
        rw [List.length_replicate] at h6
        exact h6
      rintro u ⟨wq, -, hu⟩ Y hY
      obtain ⟨ua, un, uc, rfl⟩ := hu.bs.sl
      clear hu wq
      go_simp
      refine hY _ ?_
      clear hY Y
      intro ι hne X hX
      refine still_nil ?_
      clear hX hne
      refine turn_run rfl rfl (fun u w' => (Grow wr w' ∧ Ow w' wr.heap.size (.slice ua un uc) z256) ∧ ∃ g, u = .slice (some ⟨g, 0, none⟩) 1 1 ∧ Blk w' g 32 [.slice ua un uc]) (fun _ => But (fun k => (.slice va m vc : Value).ownBlock = some k) wr) ?_ (fun _ _ h => h.1.1.mono (fun _ _ h => h.elim)) (.inr (fun _ _ h => h)) ?_ ?_
      · rintro u w4 w5 ⟨⟨h1, h2⟩, g, h3, h4⟩ k
        exact ⟨⟨h1.trans k, h2.but k (fun _ _ _ h => h)⟩, g, h3, h4.but k (fun h => h)⟩
      · rintro w4 ⟨h4, h5⟩
        refine turn_row1 (v := .slice ua un uc) Try.underlying39 infS (by decide) (by decide) rfl rfl rfl ⟨⟨h4.trans ((But.refl _ w4).alloc _), h5.but ((But.refl (fun _ => False) w4).alloc _) (fun _ _ _ h => h)⟩, _, rfl, ?_⟩
        exact Blk.new (L := [.slice ua un uc]) rfl
      rintro u ⟨wq, -, gn, rfl, -⟩ Y hY
      clear wq
      go_simp
      refine hY _ ?_
      clear hY Y
      intro ι hne X hX
      refine still_nil ?_
      clear hX hne
      refine turn_run rfl rfl (fun u w' => But (fun k => (.slice va m vc : Value).ownBlock = some k) wr w' ∧ Ow w' wr.heap.size (.slice ua un uc) z256 ∧ w'.ownsRow 0 32 1 u (m + 1) (L.map (·.1) ++ [.slice ua un uc]) ∧ (∀ k, u.ownBlock = some k → (.slice va m vc : Value).ownBlock = some k ∨ (wr.heap.size ≤ k ∧ (.slice ua un uc : Value).ownBlock ≠ some k)) ∧ (∀ k, u.ownBlock = some k → k < w'.heap.size)) (fun _ => But (fun k => (.slice va m vc : Value).ownBlock = some k) wr) ?_ (fun _ _ h => h.1) (.inr (fun _ _ h => h)) ?_ ?_
      · rintro u w4 w5 ⟨h1, h2, h3, h4, h5⟩ k
        exact ⟨h1.trans (k.mono (fun _ _ h => h.elim)), h2.but k (fun _ _ _ h => h), ownsRow_grow h3 k, h4, fun j hj => Nat.lt_of_lt_of_le (h5 j hj) k.size⟩
      · rintro w4 ⟨⟨h1, h2⟩, g', e9, h3⟩
        cases e9
        refine turn_append (v := .slice va m vc) (n := m) (xs := L.map (·.1)) (news := [.slice ua un uc]) Try.underlying39 infS rfl (by decide) rfl rfl (ownsRow_grow HRO.out h1) rfl rfl (fun j u hj => h3.cells0 j u hj) (fun u hu => by rw [show u = .slice ua un uc by simpa using hu]; rfl) (by have := HM.out; omega) (by decide) ?_
        intro v' w5 hap
        refine ⟨(h1.mono (fun _ _ h => h.elim)).trans hap.but, h2.but hap.but (fun j hj _ e => by have := HVL.out j e; have := (h2.ge j hj).1; omega), hap.own, fun j hj => ?_, hap.lt⟩
        rcases hap.at' with e | e
        · exact .inl (by rw [← e]; exact hj)
        · rw [e] at hj
          cases hj
          refine .inr ⟨h1.size, fun e2 => ?_⟩
          have := (h2.ge _ e2).2
          omega
      rintro v2 ⟨wq, -, -, hov, -⟩ Y hY
      have HV2 : Hid (v2.oneCell' = true) := ownsRow_one hov
      clear hov wq
      go_simp
      refine hY _ ?_
      clear hY Y
      intro ι hne X hX
      iterate 2 (refine still_step rfl (fun K hK => ?_); go_simp; refine hK _ ?_; clear hK K)
      refine still_nil ?_
      clear hX hne
      refine turn_run rfl rfl (fun _ w' => ∃ v' ro' L', NwI w gx (i + 1) v' ro' L' w') (fun _ _ => True) ?_ (fun _ _ _ => trivial) (.inl (by kernel_rfl)) ?_ ?_
      · rintro _ w4 w5 ⟨v', ro', L', h⟩ k
        exact ⟨v', ro', L', h.top.grow k.size, h.tag, h.blk.but k (fun h => h), h.mp, h.row.but k (fun _ _ h => h) (fun _ h => h), fun b e he => ⟨(h.el b e he).1.but k (fun _ _ _ h => h), (h.el b e he).2⟩, h.new, h.grow.trans k⟩
      · rintro w4 ⟨h1, h2, h3, h4, h5⟩
        have hbk := HBK.out.but h1 HVE.out
        have hne2 : ¬ v2.ownBlock = some gx := fun e => by
          rcases h4 gx e with h | h
          · exact HVE.out h
          · have := HBK.out.lt; omega
        have hne3 : ¬ (.slice ua un uc : Value).ownBlock = some gx := fun e => by
          have := (h2.ge gx e).1
          have := HBK.out.lt
          omega
        refine turn_store (by kernel_rfl) rfl rfl rfl HV2.out hbk (by simp) ?_
        refine ⟨v2, HI.out.add (u := .slice ua un uc) ((h1.mono (fun _ _ h => .inl h)).trans ((But.set1 _ _ _ _).mono (fun _ _ h => .inr h))) ?_ h4 ?_ ?_ (hbk.set 0 v2)⟩
        · rw [← HM.out]
          exact ownsRow_but h3 (But.set1 _ _ _ _) (fun j hj e => hne2 (by rw [← e]; exact hj))
        · intro j hj; have := h5 j hj; simpa using this
        · exact h2.but (But.set1 _ _ _ _) (fun j hj _ e => hne3 (by rw [← e]; exact hj))
      rintro v5 - Y hY
      go_simp
      refine hY _ ?_
      clear hY Y
      intro ι hne X hX
      refine still_nil ?_
      clear hX hne
      rintro w5 ⟨v', ro', L', h5⟩
      have H5 := Hid.mk' h5
      clear h5
      go_wp2
      exact ⟨⟨i + 1, v', ro', L', by omega, by go_num, H5.out⟩, by simp [intOf]; omega⟩
    · have hlti : ¬ ((i : Int) < (n : Int)) := by omega
      obtain rfl : i = n := by omega
      clear hI
      go_wp2
      go_ret
      exact ⟨⟨gx, ro, rfl, HI.out.new, HI.out.done H1.out H2.out⟩, HI.out.grow⟩
end
end Go.Proofs.Ytfgcbcopgikodaa
/- The reference: On. -/
namespace Go.Proofs.Ytfgcbcopgikodaa
open Go.RowKit

/-- What is stored behind the first j of the writes that waited. -/
def Rdv.tear (x : Rdv) (fs : List Int) : Nat → List (List Nat)
  | 0 => x.st
  | j + 1 => (x.tear fs j).set (x.wt.getD j d0).1 (layTo (x.wt.getD j d0).2 ((x.tear fs j).getD (x.wt.getD j d0).1 []) (spare fs j))
def Rdv.on (x : Rdv) (fs : List Int) : Rdv := { x with st := x.tear fs x.wt.length, wt := [], off := false, arm := 0 }
theorem Rdv.tear_len (x : Rdv) (fs : List Int) : ∀ j, (x.tear fs j).length = x.st.length
  | 0 => rfl
  | j + 1 => by unfold Rdv.tear; rw [List.length_set]; exact x.tear_len fs j
theorem rpick (x : Int) (w : World) :
    Calls Try.prog 10 #[.int .i64 x, .int .i64 257] w fun e w' => e = .returned (.int .i64 (spare [x] 0 : Int)) ∧ w' = w := by
  have ht1 : x.tmod 257 < 257 := Int.tmod_lt_of_pos x (by omega)
  have ht2 : -(257 : Int) < x.tmod 257 := by
    have := Int.lt_tmod_of_pos x (b := (257 : Int)) (by omega)
    omega
  obtain ⟨m, hm⟩ : ∃ m, m = x.tmod 257 := ⟨_, rfl⟩
  have hsp : (spare [x] 0 : Int) = x % 257 := by
    have h5 := Int.emod_nonneg x (b := 257) (by decide)
    show (((x % 257).toNat : Nat) : Int) = _
    omega
  have hem : x % 257 = if m < 0 then m + 257 else m := by
    have h5 := Int.emod_nonneg x (b := 257) (by decide)
    have h6 := Int.emod_lt_of_pos x (b := 257) (by decide)
    have h7 := Int.emod_add_mul_ediv x 257
    have h8 := Int.tmod_add_mul_tdiv x 257
    rw [hm]
    split <;> omega
  rw [← hm] at ht1 ht2
  have HSP := Hid.mk' hsp
  have HEM := Hid.mk' hem
  clear hsp hem
  by_cases hneg : m < 0
  · go_enter Try.func10, Try.ntmps10
    go_wp2
    go_ret
    refine ⟨?_, rfl⟩
    rw [HSP.out, HEM.out, if_pos hneg, hm]; rfl
  · go_enter Try.func10, Try.ntmps10
    go_wp2
    go_ret
    refine ⟨?_, rfl⟩
    rw [HSP.out, HEM.out, if_neg (by omega), hm]; rfl
section
variable {w w1 w' : World} {ro ro' : Owner} {gx : Nat} {x : Rdv} {vs vq vc vw v v' u : Value} {st : List (List Nat)} {xs : List Nat}
theorem StR.poke (h : StR w ro vs st) {b : Nat} (hb : b < st.length) (h0 : 0 < (st.getD b []).length) : ∃ g c gb cb, vs = .slice (some ⟨g, 0, none⟩) st.length c ∧ ro g = .sto ∧ w.cell? ⟨g, b, none⟩ = some (.slice (some ⟨gb, 0, none⟩) (st.getD b []).length cb) ∧ ro gb = .row b ∧ (∃ M, Blk w gb 5 M ∧ (st.getD b []).length ≤ M.length) ∧ ∀ w1, Grow w w1 → ∀ j y : Nat, j < (st.getD b []).length → y < 256 → StR (w1.setCell ⟨gb, j, none⟩ (.int .u8 (y : Int))) ro vs (st.set b ((st.getD b []).set j y)) := by
  obtain ⟨L, rfl, h2, h3⟩ := h.ex
  have hbl : b < L.length := by rw [List.length_map] at hb; exact hb
  obtain ⟨ao, c, e, h4⟩ := h2.shape
  obtain ⟨g, rfl, h5, -, h6⟩ := h4 (by omega)
  obtain ⟨h7, h8⟩ := h3 b L[b] (List.getElem?_eq_getElem hbl)
  have hgd : (L.map (·.2)).getD b [] = L[b].2 := by rw [List.getD_eq_getElem?_getD, List.getElem?_map, List.getElem?_eq_getElem hbl]; rfl
  rw [hgd] at h0 ⊢
  obtain ⟨gb, cb, R, hu, -, hbk, -⟩ := h7.opn h0
  have hro : ro gb = .row b := h8 gb (by rw [hu]; rfl)
  refine ⟨g, c, gb, cb, by rw [e, List.length_map], h5, ?_, hro, ⟨_, hbk, by rw [List.length_append, u8s_len]; omega⟩, fun w1 k j y hj hy => ?_⟩
  · rw [h6 b L[b].1 (by rw [List.getElem?_map, List.getElem?_eq_getElem hbl]; rfl), hu]
  · have k2 : But (· = gb) w (w1.setCell ⟨gb, j, none⟩ (.int .u8 (y : Int))) := (k.mono (fun _ _ h => h.elim)).trans (But.set1 _ _ _ _)
    have hfst : (L.set b (L[b].1, L[b].2.set j y)).map (·.1) = L.map (·.1) := by
      rw [List.map_set]
      apply List.ext_getElem?
      intro i
      rw [List.getElem?_set]
      split
      · next hi =>
        subst hi
        rw [if_pos (by rw [List.length_map]; exact hbl), List.getElem?_map, List.getElem?_eq_getElem hbl]; rfl
      · rfl
    refine ⟨L.set b (L[b].1, L[b].2.set j y), by rw [List.map_set], ?_, fun b' e' he => ?_⟩
    · rw [List.length_set, hfst]
      exact h2.but k2 (fun i hi e => by have hi : ro i = .sto := hi; rw [e, hro] at hi; cases hi) (fun _ h => h)
    · rw [List.getElem?_set] at he
      split at he
      · next hq =>
        subst hq
        cases he
        refine ⟨?_, h8⟩
        have h9 := h7.but k (fun _ _ _ h => h)
        rw [hu] at h9 ⊢
        exact Ow.setA h9 rfl hj hy
      · next hq =>
        obtain ⟨q1, q2⟩ := h3 b' e' he
        exact ⟨q1.but k2 (fun i hi _ e => by
          have := q2 i hi
          rw [e, hro] at this
          cases this
          exact hq rfl), q2⟩
theorem RdM.poked {b gb j : Nat} {c : List Nat} {y : Value} (h : RdM w ro gx x vs vq vc vw) (k : Grow w w1) (hgb : ro gb = .row b) (hs : StR (w1.setCell ⟨gb, j, none⟩ y) ro vs (x.st.set b c)) (hw : wf256 c) : RdM (w1.setCell ⟨gb, j, none⟩ y) ro gx { x with st := x.st.set b c } vs vq vc vw := by
  have k2 : But (· = gb) w (w1.setCell ⟨gb, j, none⟩ y) := (k.mono (fun _ _ h => h.elim)).trans (But.set1 _ _ _ _)
  have hR : ∀ {t : Tag}, t ≠ .row b → ∀ i, ro i = t → ¬ i = gb := fun q i hb e => q (by rw [← hb, e]; exact hgb)
  refine ⟨h.top.grow k2.size, h.tag, h.blk.but k2 (hR (by simp) gx h.tag), hs, h.wai.but (by decide) k2 (fun j hj => hj.elim (hR (by simp) j) (hR (by simp) j)) (fun _ _ => rfl), h.cop.but k2 (fun j hj => hj.elim (hR (by simp) j) (hR (by simp) j)) (fun _ _ => rfl), h.wri.but (by decide) k2 (fun j hj => hj.elim (hR (by simp) j) (hR (by simp) j)) (fun _ _ => rfl), ?_⟩
  refine ⟨by rw [List.length_set]; exact h.ok.n1, by rw [List.length_set]; exact h.ok.nb, fun c' hc => ?_, by rw [List.length_set]; exact h.ok.wt, by rw [List.length_set]; exact h.ok.wr, by rw [List.length_set]; exact h.ok.im⟩
  rcases List.mem_or_eq_of_mem_set hc with h1 | h1
  · exact h.ok.st c' h1
  · rw [h1]; exact hw
theorem ron_up (h : Rd w ro gx x) (hu : x.off = false) (v : Value) :
    Calls Try.prog 38 #[.pointer (some ⟨gx, 0, none⟩), v] w fun e w' => e = .returned (.tuple #[]) ∧ w' = w := by
  obtain ⟨vs, vq, vc, vw, h⟩ := h
  have c2 : w.cell? ⟨gx, 2, none⟩ = some (.bool x.off) := h.blk.cell 2
  rw [hu] at c2
  clear h hu
  go_enter Try.func38, Try.ntmps38
  go_wp2
  exact bodyPost_ret (results_none rfl _ _ _) rfl ⟨rfl, rfl⟩
end
theorem layTo_next {xs A : List Nat} {j : Nat} (hx : xs.length = 256) (hA : A.length = 256) (hj : j < 256) : layTo xs A (j + 1) = (layTo xs A j).set j (xs.getD j 0) := by
  unfold layTo
  have hjx : j < xs.length := by omega
  have e1 : (xs.take j).length = j := by rw [List.length_take]; omega
  rw [List.take_succ_eq_append_getElem hjx, List.set_append_right _ _ (by omega), e1, Nat.sub_self, List.drop_eq_getElem_cons (by omega : j < A.length), List.set_cons_zero, List.append_assoc, List.getD_eq_getElem?_getD, List.getElem?_eq_getElem hjx]
  rfl
end Go.Proofs.Ytfgcbcopgikodaa
