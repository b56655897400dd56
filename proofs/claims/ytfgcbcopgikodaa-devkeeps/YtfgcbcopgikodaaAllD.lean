/- RdOnAll, RdOnNil, DvAgree, DvTwo, DvBegun, DvGreat, DvBoth, DvPick, DvDo0, DvDoA, DvDoB, DvDoC, DvDoD, DvDo, DvAlike, IntView, DvActs, DvLaw. -/
import Derived.Test.YtfgcbcopgikodaaAllC
import Derived.Test.YtfgcbcopgikodaaAllB
import Derived.ProofKit
import Derived.OpenShut
import Derived.ChangeOld
import Derived.Below
/- The reference: On, where fates are given. -/
namespace Go.Proofs.Ytfgcbcopgikodaa
open Go.RowKit

section
variable {w : World} {ro : Owner} {gx : Nat} {x : Rdv} {v : Value} {fs : List Int}
theorem zWt (w : World) : (zeroValue 58).run Try.prog w = .ok (.agg #[.int .i64 0, .slice none 0 0]) w := by kernel_rfl
set_option maxRecDepth 100000 in
set_option maxHeartbeats 4000000 in
theorem ron_some (h : Rd w ro gx x) (hu : x.off = true) (hf : IntF w (Is ro .none) v fs) (hf0 : 0 < fs.length) (hm : x.wt.length ≤ 100000) :
    Calls Try.prog 38 #[.pointer (some ⟨gx, 0, none⟩), v] w fun e w' => e = .returned (.tuple #[]) ∧ RdTo w ro gx (x.on fs) w' := by
  have H1 : Hid (RdTo w ro gx { x with st := x.tear fs 0 } w) := h.same (But.refl _ _)
  have HWT := Hid.mk' h.ok.wt
  obtain ⟨vs, vq, vc, vw, h⟩ := h
  have c2 : w.cell? ⟨gx, 2, none⟩ = some (.bool x.off) := h.blk.cell 2
  rw [hu] at c2
  have HF := Hid.mk' hf
  obtain ⟨bf, off, cap, rfl, hfr⟩ : ∃ bf off cap, v = .slice (some ⟨bf, off, none⟩) fs.length cap ∧ (∀ x ∈ fs, -9223372036854775808 ≤ x ∧ x ≤ 9223372036854775807) ∧ fs.length ≤ 140737488355328 := by
    obtain ⟨q1, q2, ⟨rfl, -⟩ | ⟨-, b, off, cap, e, -⟩⟩ := hf.1
    · simp at hf0
    · exact ⟨b, off, cap, e, q1, q2⟩
  have HFC : Hid (∀ wr, But (fun b => ro b ≠ .none) w wr → ∀ i, i < fs.length → wr.cell? ⟨bf, off + i, none⟩ = some (.int .i64 (fs.getD i 0))) := fun wr k i hi => by
    obtain ⟨⟨q1, q2, ⟨rfl, -⟩ | ⟨-, b, off', cap', e, -, hc⟩⟩, -⟩ := HF.out.but k (fun j hj e => e hj)
    · simp at hf0
    · simp only [Value.slice.injEq, Option.some.injEq, Addr.mk.injEq, and_true] at e
      obtain ⟨⟨rfl, rfl⟩, -⟩ := e
      exact hc i hi
  obtain ⟨l, hl⟩ : ∃ l, l = fs.length := ⟨_, rfl⟩
  have HL := Hid.mk' hl
  rw [← hl]
  have hl0 : (0 : Int) < (l : Int) := by omega
  have HL0 : Hid (0 < l) := by show _ < _; omega
  have hlb : (l : Int) ≤ 140737488355328 := by have := hfr.2; omega
  obtain ⟨m, hme⟩ : ∃ m, m = x.wt.length := ⟨_, rfl⟩
  have HME := Hid.mk' hme
  have hmb : (m : Int) ≤ 100000 := by omega
  have hz := zWt
  clear h hu hf hf0 hm hl hme hfr
  go_enter Try.func38, Try.ntmps38
  go_wp2
  clear c2
  go_loopw [4] (fun iv wr => ∃ (i : Nat), i ≤ m ∧ iv = .int .i64 i ∧ RdTo w ro gx { x with st := x.tear fs i } wr) (fun iv _ => m - (intOf iv).toNat)
  case atStart => exact ⟨0, Nat.zero_le _, rfl, H1.out⟩
  case round =>
    obtain ⟨i, him, rfl, hto⟩ := hrel
    obtain ⟨ro1, f1, d1⟩ := hto.ex
    have HB1 := Hid.mk' hto.but
    have HF1 := Hid.mk' f1
    obtain ⟨vs, vq, vc, vw, h⟩ := d1
    have HH := Hid.mk' h
    obtain ⟨aq, cq, hvq⟩ := h.wai.len
    have hvq : vq = .slice aq x.wt.length cq := hvq
    rw [← HME.out] at hvq
    subst hvq
    have c1 : wr.cell? ⟨gx, 1, none⟩ = some (.slice aq m cq) := h.blk.cell 1
    by_cases hlt : i < m
    · have hlti : (i : Int) < (m : Int) := by omega
      have hiw : i < x.wt.length := by rw [← HME.out]; exact hlt
      obtain ⟨gq, kq, u1, e1, -, h1, h2, h3⟩ := h.wai.at (i := i) hiw
      simp only [Value.slice.injEq] at e1
      obtain ⟨e1, -, -⟩ := e1
      subst e1
      have h1 : wr.cell? ⟨gq, i * 2, none⟩ = some (.int .i64 ((x.wt.getD i d0).1 : Int)) := h1
      have h3 : Bf wr (Is ro1 .pic) u1 (x.wt.getD i d0).2 := h3
      obtain ⟨e, he⟩ : ∃ e, e = x.wt.getD i d0 := ⟨_, rfl⟩
      rw [← he] at h1 h3
      have hew := HWT.out e (by rw [he, List.getD_eq_getElem?_getD, List.getElem?_eq_getElem hiw]; exact List.getElem_mem hiw)
      have HNX : Hid (x.tear fs (i + 1) = (x.tear fs i).set e.1 (layTo e.2 ((x.tear fs i).getD e.1 []) (spare fs i))) := by rw [he]; rfl
      obtain ⟨b, xs⟩ := e
      have HWF : Hid (b < (x.tear fs i).length ∧ wf256 xs) := ⟨by rw [x.tear_len]; exact hew.1, hew.2⟩
      have HU1 := Hid.mk' h3
      obtain ⟨A, hA⟩ : ∃ A, A = (x.tear fs i).getD b [] := ⟨_, rfl⟩
      have HAW : Hid (wf256 A) := h.ok.st A (by
        have hb := HWF.out.1
        rw [hA, List.getD_eq_getElem?_getD, List.getElem?_eq_getElem hb]; exact List.getElem_mem hb)
      rw [← hA] at HNX
      have HA := Hid.mk' hA
      obtain ⟨ua, uc, rfl⟩ : ∃ ua uc, u1 = .slice ua 256 uc := by
        obtain ⟨ao, cap, e, -⟩ := h3.1.gen
        have := hew.2.1
        exact ⟨ao, cap, by rw [e, this]⟩
      obtain ⟨r, hr⟩ : ∃ r, r = i % l := ⟨_, rfl⟩
      have hrl : r < l := by rw [hr]; exact Nat.mod_lt _ HL0.out
      obtain ⟨f, hfe⟩ : ∃ f, f = fs.getD r 0 := ⟨_, rfl⟩
      have cf : wr.cell? ⟨bf, off + r, none⟩ = some (.int .i64 f) := by rw [hfe]; exact HFC.out wr hto.but r (by rw [← HL.out]; exact hrl)
      have hri : (r : Int) < (l : Int) := by omega
      have htm : Int.tmod (i : Int) (l : Int) = (r : Int) := by rw [hr]; exact (Int.ofNat_tmod i l).symm
      have hw1 : IntKind.i64.wrap (r : Int) = (r : Int) := wrap64 _ (by omega) (by omega)
      have hln : ((l : Int) == 0) = false := by
        have : ¬ ((l : Int) = 0) := by omega
        simpa using this
      obtain ⟨k, hk⟩ : ∃ k, k = spare [f] 0 := ⟨_, rfl⟩
      have HPI : Hid (∀ w, Calls Try.prog 10 #[.int .i64 f, .int .i64 257] w fun e w' => e = .returned (.int .i64 (k : Int)) ∧ w' = w) := fun w => by rw [hk]; exact rpick f w
      have HK : Hid (k ≤ 256 ∧ spare fs i = k) := ⟨by rw [hk]; exact spare_le _ _, by
        rw [hk]
        unfold spare
        rw [if_neg (by have := HL.out; have := HL0.out; omega), ← HL.out, ← hr, ← hfe]
        rfl⟩
      have hkb : (k : Int) ≤ 256 := by have := HK.out.1; omega
      have HCW : Hid (∀ c u, ([.int .i64 (b : Int), .slice ua 256 uc] : List Value)[c]? = some u → wr.cell? ((⟨gq, i * 2, none⟩ : Addr).add c) = some u) := fun c u hc => by
        rw [addr_add]
        match c, hc with
        | 0, hc => cases hc; exact h1
        | 1, hc => cases hc; exact h2
        | (c + 2), hc => simp at hc
      have HBZ : Hid (Blk (wr.alloc (.cells #[.int .i64 0, .slice none 0 0] 58)) wr.heap.size 58 [.int .i64 0, .slice none 0 0]) := Blk.new (L := [.int .i64 0, .slice none 0 0]) rfl
      obtain ⟨Q, hQ⟩ : ∃ Q : Value, Q = .slice (some ⟨gq, 0, none⟩) m cq := ⟨_, rfl⟩
      rw [← hQ] at HH
      clear hto f1 h hiw h1 h2 h3 he hew hA hr hrl hfe hk hQ
      go_wp2_with fail
      refine Calls.mono (HPI.out _) ?_
      rintro e w9 ⟨rfl, rfl⟩
      go_upto_region 8 with (first
        | (refine wpList_load_cells rfl _ _ rfl ⟨gq, i * 2, none⟩ rfl [.int .i64 (b : Int), .slice ua 256 uc] _ HCW.out Try.underlying58 rfl iWt ?_)
        | (refine wpList_store_at rfl _ _ _ rfl w9.heap.size 0 [.int .i64 (b : Int), .slice ua 256 uc] rfl rfl 58 [] [.int .i64 0, .slice none 0 0] [] (by simpa using HBZ.out) rfl rfl iWt (fun u hu => by
            rcases List.mem_cons.1 hu with rfl | hu
            · rfl
            · rw [show u = .slice ua 256 uc by simpa using hu]; rfl) ?_; intro w2 hb2 hbut2; rw [List.nil_append, List.append_nil] at hb2)
        | fail)
      obtain ⟨g6, hg6⟩ : ∃ g, g = w9.heap.size := ⟨_, rfl⟩
      rw [← hg6] at hb2 hbut2 ⊢
      have hG2 : Grow w9 w2 := ((But.refl _ w9).alloc _).then hbut2 (fun i hi e => by omega)
      have HG2 := Hid.mk' hG2
      have HB6 := Hid.mk' hb2
      have HG6 : Hid (ro1 g6 = .none) := HH.out.top g6 (by rw [hg6]; exact Nat.le_refl _)
      have HU2 := Hid.mk' (HU1.out.but hG2 (fun _ _ h => h))
      have HI0 : Hid (RdM w2 ro1 gx { x with st := (x.tear fs i).set b (layTo xs A 0) } vs Q vc vw) := by
        have e : (x.tear fs i).set b (layTo xs A 0) = x.tear fs i := by
          show (x.tear fs i).set b A = _
          have hb := HWF.out.1
          rw [HA.out, List.getD_eq_getElem?_getD, List.getElem?_eq_getElem hb]
          exact List.set_getElem_self hb
        rw [e]
        exact HH.out.but hG2 (fun _ _ h => h)
      clear hb2 hbut2 hG2 hg6 c1 cf HBZ HCW
      go_wp2
      go_loopw [7] (fun jv wr => ∃ j : Nat, j ≤ k ∧ jv = .int .i64 j ∧ RdM wr ro1 gx { x with st := (x.tear fs i).set b (layTo xs A j) } vs Q vc vw ∧ But (fun q => ro1 q = .row b) w2 wr) (fun jv _ => k - (intOf jv).toNat)
      case atStart => exact ⟨0, Nat.zero_le _, rfl, HI0.out, But.refl _ _⟩
      case round =>
        rename_i wj
        obtain ⟨j, hjk, rfl, hR, hB⟩ := hrel
        have HR := Hid.mk' hR
        have HB := Hid.mk' hB
        by_cases hj : j < k
        · have hji : (j : Int) < (k : Int) := by omega
          have hj256 : j < 256 := by have := HK.out.1; omega
          have hj2 : (j : Int) < 256 := by omega
          obtain ⟨S, hS⟩ : ∃ S, S = (x.tear fs i).set b (layTo xs A j) := ⟨_, rfl⟩
          have hSl : b < S.length := by rw [hS, List.length_set]; exact HWF.out.1
          have hSg : S.getD b [] = layTo xs A j := by
            rw [hS, List.getD_eq_getElem?_getD, List.getElem?_set_self HWF.out.1]; rfl
          have hly := layTo_wf HWF.out.2 HAW.out (Nat.le_of_lt hj256)
          have hsto : StR wr ro1 vs S := by rw [hS]; exact hR.sto
          obtain ⟨gs, ks, gb, cb, hvs, -, hcb, hro, ⟨M, hM, hMl⟩, hpk⟩ := hsto.poke hSl (by rw [hSg, hly.1]; omega)
          rw [hSg, hly.1] at hcb hMl
          rw [hSg] at hpk
          obtain ⟨n, hn⟩ : ∃ n, n = S.length := ⟨_, rfl⟩
          rw [← hn] at hvs
          have hbi : (b : Int) < (n : Int) := by omega
          have c0 : wr.cell? ⟨gx, 0, none⟩ = some (.slice (some ⟨gs, 0, none⟩) n ks) := by rw [← hvs]; exact hR.blk.cell 0
          have hB6 := HB6.out.but hB (fun e => by rw [HG6.out] at e; cases e)
          have c6 : wr.cell? ⟨g6, 0, none⟩ = some (.int .i64 (b : Int)) := hB6.cell 0
          have c7 : wr.cell? ⟨g6, 1, none⟩ = some (.slice ua 256 uc) := hB6.cell 1
          have hU := (HU2.out.but hB (fun q hq e => by have hq : ro1 q = .pic := hq; rw [hq] at e; cases e)).1
          obtain ⟨y, hy⟩ : ∃ y, y = xs.getD j 0 := ⟨_, rfl⟩
          have hjx : j < xs.length := by rw [HWF.out.2.1]; exact hj256
          obtain ⟨q1, q2, ⟨q3, -⟩ | ⟨q3, bb, of, cp, e, -, -, hcell⟩⟩ := hU
          · rw [q3] at hjx; simp at hjx
          simp only [Value.slice.injEq] at e
          obtain ⟨rfl, -, rfl⟩ := e
          have cy := hcell j hjx
          rw [← hy] at cy
          have HY : Hid (y < 256) := by show _ < _; rw [hy]; exact q1 _ (getD_mem xs j hjx)
          have HNS : Hid (∀ w4, Grow wr w4 → RdM (w4.setCell ⟨gb, j, none⟩ (.int .u8 (y : Int))) ro1 gx { x with st := (x.tear fs i).set b (layTo xs A (j + 1)) } vs Q vc vw) := fun w4 k4 => by
            have e2 : (x.tear fs i).set b (layTo xs A (j + 1)) = S.set b ((layTo xs A j).set j y) := by
              rw [hS, List.set_set, layTo_next HWF.out.2.1 HAW.out.1 hj256, hy]
            have h5 := hpk w4 k4 j y (by rw [hly.1]; exact hj256) HY.out
            rw [hS] at h5
            rw [e2, hS]
            have hw5 : wf256 ((layTo xs A j).set j y) := by
              rw [hy, ← layTo_next HWF.out.2.1 HAW.out.1 hj256]
              exact layTo_wf HWF.out.2 HAW.out hj256
            exact HR.out.poked (x := { x with st := (x.tear fs i).set b (layTo xs A j) }) k4 hro h5 hw5
          have HC : Hid (∀ w', Grow wr w' → w'.cell? ⟨gx, 0, none⟩ = some (.slice (some ⟨gs, 0, none⟩) n ks) ∧ w'.cell? ⟨g6, 0, none⟩ = some (.int .i64 (b : Int)) ∧ w'.cell? ⟨g6, 1, none⟩ = some (.slice (some ⟨bb, of, none⟩) 256 uc) ∧ w'.cell? ⟨gs, b, none⟩ = some (.slice (some ⟨gb, 0, none⟩) 256 cb) ∧ w'.cell? ⟨bb, of + j, none⟩ = some (.int .u8 (y : Int))) := fun w' k => ⟨grow_cell k c0, grow_cell k c6, grow_cell k c7, grow_cell k hcb, grow_cell k cy⟩
          have HMB : Hid (Blk wr gb 5 M ∧ j < M.length) := ⟨hM, by omega⟩
          have HRO : Hid (ro1 gb = .row b) := hro
          clear hR hB hS hSl hSg hly hsto hvs hcb hro hM hMl hpk hn c0 c6 c7 hB6 hy hjx q1 q2 q3 hcell cy
          go_upto_region 11 with fail
          refine region_chain [([0, 1, 2, 3, 4, 5, 6, 7, 8, 9, 10, 11, 12, 13, 14], 15)] [] (Grow wr) (Grow wr) (by kernel_rfl) (by kernel_rfl) (fun _ _ h k => h.trans k) (fun _ h => h) ((But.refl _ wr).drew) ?_
          intro ι hne X hX
          have d0 : ∀ x, (X x).cell? ⟨gx, 0, none⟩ = some (.slice (some ⟨gs, 0, none⟩) n ks) := fun x => (HC.out _ (hX x)).1
          have d1 : ∀ x, (X x).cell? ⟨g6, 0, none⟩ = some (.int .i64 (b : Int)) := fun x => (HC.out _ (hX x)).2.1
          have d2 : ∀ x, (X x).cell? ⟨g6, 1, none⟩ = some (.slice (some ⟨bb, of, none⟩) 256 uc) := fun x => (HC.out _ (hX x)).2.2.1
          have d3 : ∀ x, (X x).cell? ⟨gs, b, none⟩ = some (.slice (some ⟨gb, 0, none⟩) 256 cb) := fun x => (HC.out _ (hX x)).2.2.2.1
          have d4 : ∀ x, (X x).cell? ⟨bb, of + j, none⟩ = some (.int .u8 (y : Int)) := fun x => (HC.out _ (hX x)).2.2.2.2
          iterate 15 (refine still_step rfl (fun K hK => ?_); go_simp; refine hK _ ?_; clear hK K)
          refine still_nil ?_
          clear d0 d1 d2 d3 d4 hX hne
          refine turn_run rfl rfl (fun _ w' => RdM w' ro1 gx { x with st := (x.tear fs i).set b (layTo xs A (j + 1)) } vs Q vc vw ∧ But (fun q => ro1 q = .row b) w2 w') (fun _ _ => True) (fun _ _ _ h k => ⟨h.1.but k (fun _ _ h => h), h.2.trans (k.mono (fun _ _ h => h.elim))⟩) (fun _ _ _ => trivial) (.inl (by kernel_rfl)) ?_ ?_
          · intro w4 h4
            refine turn_store (v := .int .u8 (y : Int)) (g := gb) (i := j) (by kernel_rfl) rfl rfl rfl rfl (HMB.out.1.but h4 (fun h => h)) HMB.out.2 ⟨HNS.out w4 h4, ?_⟩
            exact HB.out.trans ((h4.mono (fun _ _ h => h.elim)).trans ((But.set1 _ _ _ _).mono (fun q _ e => by rw [e]; exact HRO.out)))
          rintro v5 - Y hY
          go_simp
          refine hY _ ?_
          clear hY Y
          intro ι hne X hX
          refine still_nil ?_
          clear hX hne
          rintro w5 ⟨h5, h6⟩
          have H5 := Hid.mk' h5
          have H6 := Hid.mk' h6
          clear h5 h6
          go_wp2
          exact ⟨⟨j + 1, by omega, by go_num, H5.out, H6.out⟩, by simp [intOf]; omega⟩
        · have hji : ¬ ((j : Int) < (k : Int)) := by omega
          obtain rfl : j = k := by omega
          have HFN : Hid (RdTo w ro gx { x with st := x.tear fs (i + 1) } wr) := by
            rw [HNX.out, HK.out.2]
            refine RdTo.next HB1.out HF1.out ⟨(HG2.out.mono (fun _ _ h => h.elim)).trans (hB.mono (fun q _ e => by rw [e]; simp)), ro1, Fresh.refl _ _, vs, _, vc, vw, hR⟩
          clear hR hB
          go_wp2
          exact ⟨⟨i + 1, by omega, by go_num, HFN.out⟩, by simp [intOf]; omega⟩
    · have hlti : ¬ ((i : Int) < (m : Int)) := by omega
      have g1 : wr.frozen? ⟨gx, 1, none⟩ = false := h.blk.free 1
      have g2 : wr.frozen? ⟨gx, 2, none⟩ = false := h.blk.free 2
      have g3 : wr.frozen? ⟨gx, 3, none⟩ = false := h.blk.free 3
      have c2 : wr.cell? ⟨gx, 2, none⟩ = some (.bool x.off) := h.blk.cell 2
      have c3 : wr.cell? ⟨gx, 3, none⟩ = some (.int .i64 (x.arm : Int)) := h.blk.cell 3
      have HFN : Hid (RdTo w ro gx (x.on fs) (((wr.setCell ⟨gx, 1, none⟩ (.slice none 0 0)).setCell ⟨gx, 2, none⟩ (.bool false)).setCell ⟨gx, 3, none⟩ (.int .i64 0))) := by
        have h3 := (h.dry (o := false) (a := 0) ((But.set1 _ _ _ _).trans ((But.set1 _ _ _ _).trans (But.set1 _ _ _ _))) (((h.blk.set 1 (.slice none 0 0)).set 2 (.bool false)).set 3 (.int .i64 0))).next HB1.out HF1.out
        have e : ({ x with st := x.tear fs i, off := false, arm := 0, wt := [] } : Rdv) = x.on fs := by
          unfold Rdv.on
          have : i = x.wt.length := by have := HME.out; omega
          rw [this]
        rw [← e]
        exact h3
      clear hto h
      go_wp2
      go_end0
      exact ⟨rfl, HFN.out⟩
end
end Go.Proofs.Ytfgcbcopgikodaa
/- The reference: On, where no fate is given. -/
namespace Go.Proofs.Ytfgcbcopgikodaa
open Go.RowKit

theorem Rdv.tear_nil (x : Rdv) : ∀ j, x.tear [] j = x.st
  | 0 => rfl
  | j + 1 => by
    unfold Rdv.tear
    rw [x.tear_nil j]
    show x.st.set (x.wt.getD j d0).1 (x.st.getD (x.wt.getD j d0).1 []) = x.st
    apply List.ext_getElem?
    intro i
    rw [List.getElem?_set]
    split
    · next hi =>
      subst hi
      split
      · next hl => rw [List.getD_eq_getElem?_getD, List.getElem?_eq_getElem hl]; rfl
      · next hl => rw [List.getElem?_eq_none (by omega)]
    · rfl
section
variable {w : World} {ro : Owner} {gx : Nat} {x : Rdv}
set_option maxRecDepth 100000 in
set_option maxHeartbeats 4000000 in
theorem ron_none (h : Rd w ro gx x) (hu : x.off = true) (ao : Option Addr) (cap : Nat) (hm : x.wt.length ≤ 100000) :
    Calls Try.prog 38 #[.pointer (some ⟨gx, 0, none⟩), .slice ao 0 cap] w fun e w' => e = .returned (.tuple #[]) ∧ RdTo w ro gx (x.on []) w' := by
  obtain ⟨vs, vq, vc, vw, h⟩ := h
  have c2 : w.cell? ⟨gx, 2, none⟩ = some (.bool x.off) := h.blk.cell 2
  rw [hu] at c2
  have HH := Hid.mk' h
  obtain ⟨aq, cq, hvq⟩ := h.wai.len
  obtain ⟨m, hme⟩ : ∃ m, m = x.wt.length := ⟨_, rfl⟩
  rw [← hme] at hvq
  subst hvq
  have HME := Hid.mk' hme
  have hmb : (m : Int) ≤ 100000 := by omega
  have hz := zWt
  clear h hu hm hme
  go_enter Try.func38, Try.ntmps38
  go_wp2
  clear c2
  go_loopw [4] (fun iv wr => ∃ (i : Nat), i ≤ m ∧ iv = .int .i64 i ∧ Grow w wr) (fun iv _ => m - (intOf iv).toNat)
  case atStart => exact ⟨0, Nat.zero_le _, rfl, But.refl _ _⟩
  case round =>
    obtain ⟨i, him, rfl, hG⟩ := hrel
    have HG := Hid.mk' hG
    have h := HH.out.but hG (fun _ _ h => h)
    have c1 : wr.cell? ⟨gx, 1, none⟩ = some (.slice aq m cq) := h.blk.cell 1
    by_cases hlt : i < m
    · have hlti : (i : Int) < (m : Int) := by omega
      have hiw : i < x.wt.length := by rw [← HME.out]; exact hlt
      obtain ⟨gq, kq, u1, e1, -, h1, h2, h3⟩ := h.wai.at (i := i) hiw
      simp only [Value.slice.injEq] at e1
      obtain ⟨e1, -, -⟩ := e1
      subst e1
      obtain ⟨b, hb⟩ : ∃ b, b = (x.wt.getD i d0).1 := ⟨_, rfl⟩
      rw [← hb] at h1
      obtain ⟨ua, un, uc, rfl⟩ := h3.1.sl
      have HCW : Hid (∀ c u, ([.int .i64 (b : Int), .slice ua un uc] : List Value)[c]? = some u → wr.cell? ((⟨gq, i * 2, none⟩ : Addr).add c) = some u) := fun c u hc => by
        rw [addr_add]
        match c, hc with
        | 0, hc => cases hc; exact h1
        | 1, hc => cases hc; exact h2
        | (c + 2), hc => simp at hc
      have HBZ : Hid (Blk (wr.alloc (.cells #[.int .i64 0, .slice none 0 0] 58)) wr.heap.size 58 [.int .i64 0, .slice none 0 0]) := Blk.new (L := [.int .i64 0, .slice none 0 0]) rfl
      obtain ⟨W, hW⟩ : ∃ W, W = wr := ⟨_, rfl⟩
      have HW := Hid.mk' hW
      clear hG h hiw h1 h2 h3 hb hW
      go_upto_region 8 with (first
        | (refine wpList_load_cells rfl _ _ rfl ⟨gq, i * 2, none⟩ rfl [.int .i64 (b : Int), .slice ua un uc] _ HCW.out Try.underlying58 rfl iWt ?_)
        | (refine wpList_store_at rfl _ _ _ rfl wr.heap.size 0 [.int .i64 (b : Int), .slice ua un uc] rfl rfl 58 [] [.int .i64 0, .slice none 0 0] [] (by simpa using HBZ.out) rfl rfl iWt (fun u hu => by
            rcases List.mem_cons.1 hu with rfl | hu
            · rfl
            · rw [show u = .slice ua un uc by simpa using hu]; rfl) ?_; intro w2 hb2 hbut2)
        | fail)
      have HG2 : Hid (Grow w w2) := HG.out.trans (((But.refl _ wr).alloc _).then hbut2 (fun i hi e => by omega))
      clear hb2 hbut2 c1 HBZ HCW HW
      go_wp2
      go_loopw [7] (fun jv wr => jv = .int .i64 0 ∧ Grow w wr) (fun _ _ => 0)
      case atStart => exact ⟨rfl, HG2.out⟩
      case round =>
        obtain ⟨rfl, hG3⟩ := hrel
        have HG3 := Hid.mk' hG3
        clear hG3
        go_wp2
        exact ⟨⟨i + 1, by omega, by go_num, HG3.out⟩, by simp [intOf]; omega⟩
    · have hlti : ¬ ((i : Int) < (m : Int)) := by omega
      have g1 : wr.frozen? ⟨gx, 1, none⟩ = false := h.blk.free 1
      have g2 : wr.frozen? ⟨gx, 2, none⟩ = false := h.blk.free 2
      have g3 : wr.frozen? ⟨gx, 3, none⟩ = false := h.blk.free 3
      have c2 : wr.cell? ⟨gx, 2, none⟩ = some (.bool x.off) := h.blk.cell 2
      have c3 : wr.cell? ⟨gx, 3, none⟩ = some (.int .i64 (x.arm : Int)) := h.blk.cell 3
      have HFN : Hid (RdTo w ro gx (x.on []) (((wr.setCell ⟨gx, 1, none⟩ (.slice none 0 0)).setCell ⟨gx, 2, none⟩ (.bool false)).setCell ⟨gx, 3, none⟩ (.int .i64 0))) := by
        have h3 := (h.dry (o := false) (a := 0) ((But.set1 _ _ _ _).trans ((But.set1 _ _ _ _).trans (But.set1 _ _ _ _))) (((h.blk.set 1 (.slice none 0 0)).set 2 (.bool false)).set 3 (.int .i64 0))).next (hG.mono (fun _ _ h => h.elim)) (Fresh.refl w ro)
        have e : ({ x with off := false, arm := 0, wt := [] } : Rdv) = x.on [] := by
          unfold Rdv.on
          rw [x.tear_nil]
        rw [← e]
        exact h3
      clear hG h
      go_wp2
      go_end0
      exact ⟨rfl, HFN.out⟩
end
end Go.Proofs.Ytfgcbcopgikodaa
/- The program's device and the reference's agree, whatever is done to both: lists only. -/
namespace Go.Proofs.Ytfgcbcopgikodaa
open Go.RowKit

structure Agr (s : Dev) (x : Rdv) : Prop where
  st : x.st = s.st
  cnt : x.cnt = s.cnt
  im : x.im = s.im
  wr : x.wr = s.wr
  off : x.off = !s.up
  wt : x.wt = s.wt.map (fun i => s.wr.getD i d0)
  arm : s.up = true → x.arm = s.arm
theorem lastOf_map (f : Nat → WrE) (b : Nat) : ∀ (l : List Nat) (d : List Nat), lastOf (l.map f) b d = match (l.filter fun i => (f i).1 == b).getLast? with | some i => (f i).2 | none => d
  | [], _ => rfl
  | a :: l, d => by
    show lastOf (l.map f) b (if (f a).1 = b then (f a).2 else d) = _
    rw [lastOf_map f b l]
    by_cases h : (f a).1 = b
    · rw [List.filter_cons_of_pos (by simpa using h), List.getLast?_cons, if_pos h]
      cases (l.filter fun i => (f i).1 == b).getLast? <;> rfl
    · rw [List.filter_cons_of_neg (by simpa using h), if_neg h]
section
variable {s : Dev} {x : Rdv}
theorem Agr.now (h : Agr s x) (b : Nat) : x.now b = s.now b := by
  unfold Rdv.now Dev.now wb
  rw [h.wt, h.st, lastOf_map]
  cases (s.wt.filter fun i => (s.wr.getD i d0).1 == b).getLast? <;> rfl
theorem Agr.write (h : Agr s x) (hl : ∀ i ∈ s.wt, i < s.wr.length) (b : Nat) (xs : List Nat) : Agr (s.write b xs) (x.write b xs) := by
  refine ⟨h.st, h.cnt, h.im, ?_, h.off, ?_, h.arm⟩
  · show x.wr ++ [(b, xs)] = s.wr ++ [(b, xs)]
    rw [h.wr]
  · show x.wt ++ [(b, xs)] = (s.wt ++ [s.wr.length]).map (fun i => (s.wr ++ [(b, xs)]).getD i d0)
    rw [List.map_append, h.wt]
    congr 1
    · exact List.map_congr_left (fun i hi => (getD_left _ _ _ (hl i hi)).symm)
    · simp [List.getD]
theorem Agr.acc (h : Agr s x) (hu : s.up = true) : Agr s.acc x.acc := by
  have ha := h.arm hu
  refine ⟨h.st, ?_, h.im, h.wr, ?_, h.wt, fun _ => ?_⟩
  · show x.cnt + 1 = s.cnt + 1
    rw [h.cnt]
  · show (x.arm == 1) = !(!(s.arm == 1))
    rw [ha, Bool.not_not]
  · show x.arm - 1 = s.arm - 1
    rw [ha]
theorem flushTo_get (b : Nat) : ∀ (wt : List WrE) (st : List (List Nat)), b < st.length → (flushTo st wt).getD b [] = lastOf wt b (st.getD b [])
  | [], _, _ => rfl
  | e :: wt, st, hb => by
    show (flushTo (st.set e.1 e.2) wt).getD b [] = lastOf wt b (if e.1 = b then e.2 else st.getD b [])
    rw [flushTo_get b wt _ (by rw [List.length_set]; exact hb)]
    congr 1
    by_cases h : e.1 = b
    · subst h
      rw [if_pos rfl, List.getD_eq_getElem?_getD, List.getElem?_set_self hb]; rfl
    · rw [if_neg h, List.getD_eq_getElem?_getD, List.getElem?_set_ne h, List.getD_eq_getElem?_getD]
theorem Agr.flushed (h : Agr s x) : Agr s.flushed x.flushed := by
  refine ⟨?_, h.cnt, h.im, h.wr, h.off, rfl, h.arm⟩
  show flushTo x.st x.wt = (List.range s.st.length).map s.now
  apply List.ext_getElem?
  intro b
  by_cases hb : b < x.st.length
  · have h1 : b < (flushTo x.st x.wt).length := by rw [flushTo_len]; exact hb
    have h2 := flushTo_get b x.wt x.st hb
    rw [List.getD_eq_getElem?_getD, List.getElem?_eq_getElem h1] at h2
    rw [List.getElem?_eq_getElem h1, List.getElem?_map, List.getElem?_range (by rw [← h.st]; exact hb)]
    show some _ = some (s.now b)
    rw [← h.now b]
    exact congrArg some h2
  · rw [List.getElem?_eq_none (by rw [flushTo_len]; omega), List.getElem?_eq_none (by rw [List.length_map, List.length_range, ← h.st]; omega)]
theorem Agr.tear (h : Agr s x) (fs : List Int) : ∀ j, j ≤ s.wt.length → x.tear fs j = Go.Proofs.Ytfgcbcopgikodaa.tear s fs j
  | 0, _ => h.st
  | j + 1, hj => by
    have h1 := h.tear fs j (by omega)
    have h2 : x.wt.getD j d0 = s.wr.getD (s.wt.getD j 0) d0 := by
      rw [h.wt, List.getD_eq_getElem?_getD, List.getElem?_map, List.getElem?_eq_getElem (by omega : j < s.wt.length), List.getD_eq_getElem?_getD (l := s.wt), List.getElem?_eq_getElem (by omega : j < s.wt.length)]
      rfl
    unfold Rdv.tear Go.Proofs.Ytfgcbcopgikodaa.tear
    rw [h1, h2]
theorem Agr.on (h : Agr s x) (fs : List Int) : Agr (s.on fs) (x.on fs) := by
  refine ⟨?_, h.cnt, h.im, h.wr, rfl, rfl, fun _ => rfl⟩
  show x.tear fs x.wt.length = Go.Proofs.Ytfgcbcopgikodaa.tear s fs s.wt.length
  rw [h.wt, List.length_map]
  exact h.tear fs _ (Nat.le_refl _)
theorem Agr.laid (h : Agr s x) (b : Nat) (D : List Nat) : Agr (s.laid b D) (x.laid b D) := by
  refine ⟨?_, h.cnt, h.im, h.wr, h.off, ?_, h.arm⟩
  · show x.st.set b D = s.st.set b D
    rw [h.st]
  · show x.wt.filter _ = (s.wt.filter fun i => !((s.wr.getD i d0).1 == b)).map (fun i => s.wr.getD i d0)
    rw [h.wt, List.filter_map]
    rfl
theorem Agr.snapped (h : Agr s x) : Agr s.snapped x.snapped := by
  refine ⟨h.st, h.cnt, ?_, h.wr, h.off, h.wt, h.arm⟩
  show x.im ++ [x.all] = s.im ++ [s.all]
  have : x.all = s.all := by
    unfold Rdv.all Dev.all
    rw [h.st]
    exact List.map_congr_left (fun b _ => h.now b)
  rw [h.im, this]
theorem Agr.backed (h : Agr s x) (k : Nat) : Agr (s.backed k) (x.backed k) := by
  refine ⟨?_, h.cnt, h.im, h.wr, h.off, rfl, h.arm⟩
  show x.im.getD k [] = s.im.getD k []
  rw [h.im]
theorem Agr.crash (h : Agr s x) : Agr { s with arm := 0, up := false } { x with off := true, arm := 0 } :=
  ⟨h.st, h.cnt, h.im, h.wr, rfl, h.wt, fun _ => rfl⟩
theorem Agr.armed (h : Agr s x) (n : Nat) : Agr { s with arm := n } (if x.off then x else { x with arm := n }) := by
  by_cases hu : x.off = true
  · rw [if_pos hu]
    have hs : s.up = false := by have := h.off; rw [hu] at this; simpa using this.symm
    exact ⟨h.st, h.cnt, h.im, h.wr, h.off, h.wt, fun e => absurd (hs.symm.trans e) (by decide)⟩
  · rw [if_neg hu]
    exact ⟨h.st, h.cnt, h.im, h.wr, h.off, h.wt, fun _ => rfl⟩
end
end Go.Proofs.Ytfgcbcopgikodaa
/- Both devices side by side in one memory, new since w0. -/
namespace Go.Proofs.Ytfgcbcopgikodaa
open Go.RowKit

structure Tw (w0 w : World) (gd gx : Nat) (s : Dev) (x : Rdv) : Prop where
  ex : ∃ own ro, Dv w own gd s ∧ Rd w ro gx x ∧ (∀ k, own k ≠ .none → ro k = .none) ∧ (∀ k, own k ≠ .none → w0.heap.size ≤ k) ∧ (∀ k, ro k ≠ .none → w0.heap.size ≤ k)
  grow : Grow w0 w
section
variable {w0 w w' : World} {gd gx : Nat} {s : Dev} {x : Rdv}
theorem Tw.then (h : Tw w0 w gd gx s x) (k : Grow w w') : Tw w0 w' gd gx s x := by
  obtain ⟨own, ro, h1, h2, h3, h4, h5⟩ := h.ex
  exact ⟨⟨own, ro, h1.grow k, h2.grow k, h3, h4, h5⟩, h.grow.trans k⟩
/-- A call on the program's device. -/
theorem Tw.dev (h : Tw w0 w gd gx s x) : ∃ own, Dv w own gd s ∧ (∀ k, own k ≠ .none → w0.heap.size ≤ k) ∧ ∀ s' w', DvTo w own gd s' w' → Tw w0 w' gd gx s' x := by
  obtain ⟨own, ro, h1, h2, h3, h4, h5⟩ := h.ex
  refine ⟨own, h1, h4, fun s' w' hto => ?_⟩
  obtain ⟨own', f, d⟩ := hto.ex
  refine ⟨⟨own', ro, d, ?_, fun k hk => ?_, fun k hk => ?_, h5⟩, h.grow.then hto.but (fun k hk e => by have := h4 k e; omega)⟩
  · obtain ⟨vs, vq, vc, vw, h2⟩ := h2
    exact ⟨vs, vq, vc, vw, h2.but hto.but (fun k hk e => hk (h3 k e))⟩
  · by_cases hq : own' k = own k
    · exact h3 k (by rw [← hq]; exact hk)
    · exact h2.top k (f k hq)
  · by_cases hq : own' k = own k
    · exact h4 k (by rw [← hq]; exact hk)
    · exact Nat.le_trans h.grow.size (f k hq)
/-- A call on the reference's. -/
theorem Tw.ref (h : Tw w0 w gd gx s x) : ∃ ro, Rd w ro gx x ∧ (∀ k, ro k ≠ .none → w0.heap.size ≤ k) ∧ ∀ x' w', RdTo w ro gx x' w' → Tw w0 w' gd gx s x' := by
  obtain ⟨own, ro, h1, h2, h3, h4, h5⟩ := h.ex
  refine ⟨ro, h2, h5, fun x' w' hto => ?_⟩
  obtain ⟨ro', f, d⟩ := hto.ex
  have h6 : ∀ k, own k ≠ .none → ¬ ro k ≠ .none := fun k hk e => e (h3 k hk)
  refine ⟨⟨own, ro', ?_, d, fun k hk => ?_, h4, fun k hk => ?_⟩, h.grow.then hto.but (fun k hk e => by have := h5 k e; omega)⟩
  · obtain ⟨gs, vw, bm, vi, h1⟩ := h1
    exact ⟨gs, vw, bm, vi, h1.but hto.but h6⟩
  · by_cases hq : ro' k = ro k
    · rw [hq]; exact h3 k hk
    · have h7 := f k hq
      obtain ⟨gs, vw, bm, vi, h1⟩ := h1
      exact absurd (h1.top k h7) hk
  · by_cases hq : ro' k = ro k
    · exact h5 k (by rw [← hq]; exact hk)
    · exact Nat.le_trans h.grow.size (f k hq)
end
end Go.Proofs.Ytfgcbcopgikodaa
/- begun: a pair of devices. -/
namespace Go.Proofs.Ytfgcbcopgikodaa
open Go.RowKit

theorem Agr.fresh (n : Nat) : Agr (Dev.fresh n) (Rdv.new n) := ⟨rfl, rfl, rfl, rfl, rfl, rfl, fun _ => rfl⟩
theorem Tw.mk' {w0 w1 w : World} {own ro : Owner} {gd gx : Nat} {s : Dev} {x : Rdv} (h1 : DvN w0 w1 own gd s) (h2 : Grow w1 w) (h3 : Rd w ro gx x) (h4 : ∀ k, ro k ≠ .none → w1.heap.size ≤ k) : Tw w0 w gd gx s x :=
  ⟨⟨own, ro, h1.dv.grow h2, h3, fun k hk => by
    by_cases hq : ro k = .none
    · exact hq
    · have := h4 k hq
      have := h1.dv.top.lt hk
      omega, h1.new, fun k hk => Nat.le_trans h1.grow.size (h4 k hk)⟩, h1.grow.trans h2⟩
theorem zPair (w : World) : (zeroValue 28).run Try.prog w = .ok (.agg #[.pointer none, .pointer none]) w := by kernel_rfl
theorem iPair : (Try.prog.info? 28).map (·.size) = some 2 := by kernel_rfl
theorem builtPair (p q : Option Addr) (w : World) : (Instr.build 28 #[(0, .pointer p), (1, .pointer q)]).run Try.prog w = .ok (.agg #[.pointer p, .pointer q]) w := run_build w _ _ _ (by kernel_rfl)
structure BegIs (w : World) (n : Nat) (e : Ending) (w' : World) : Prop where
  ex : ∃ gd gx, e = .returned (.agg #[.pointer (some ⟨gd, 0, none⟩), .pointer (some ⟨gx, 0, none⟩)]) ∧ Tw w w' gd gx (Dev.fresh n) (Rdv.new n)
set_option maxRecDepth 100000 in
theorem begun_any (w : World) {n : Nat} (h1 : 1 ≤ n) (h2 : n ≤ 65536) : Calls Try.prog 9 #[.int .i64 (n : Int)] w (BegIs w n) := by
  have hz := zPair
  have HN : Hid (∀ w, Calls Try.prog 25 #[.int .i64 (n : Int)] w fun e w' => ∃ gd own, e = .returned (.tuple #[.pointer (some ⟨gd, 0, none⟩), .int .i64 0]) ∧ DvN w w' own gd (Dev.fresh n)) := fun w => new_any w n h1 h2
  have HR : Hid (∀ w, Calls Try.prog 29 #[.int .i64 (n : Int)] w (RNewIs w n)) := fun w => rnew_any w h1 h2
  obtain ⟨wa, hwa⟩ : ∃ wa, wa = w.alloc (.cells #[.pointer none, .pointer none] 28) := ⟨_, rfl⟩
  have HA : Hid (Grow w wa) := by rw [hwa]; exact (But.refl _ w).alloc _
  have HB : Hid (Blk wa w.heap.size 28 [.pointer none, .pointer none]) := by rw [hwa]; exact Blk.new (L := [.pointer none, .pointer none]) rfl
  obtain ⟨g2, hg2⟩ : ∃ g2, g2 = w.heap.size := ⟨_, rfl⟩
  rw [← hg2] at HB
  have HG := Hid.mk' hg2
  have HWA := Hid.mk' hwa
  clear h1 h2 hwa hg2
  go_enter Try.func9, Try.ntmps9
  go_wp2_with fail
  rw [← HG.out, ← HWA.out]
  refine Calls.mono (HN.out wa) ?_
  rintro e w1 ⟨gd, own, rfl, hd⟩
  have HD := Hid.mk' hd
  clear hd
  go_wp2_with fail
  refine Calls.mono (HR.out w1) ?_
  rintro e w2 ⟨⟨gx, ro, rfl, hn, hr⟩, hg⟩
  have HN2 := Hid.mk' hn
  have HR2 := Hid.mk' hr
  have HG2 := Hid.mk' hg
  have HB2 : Hid (Blk w2 g2 28 [.pointer none, .pointer none]) := HB.out.but (HD.out.grow.trans hg) (fun h => h)
  clear hn hr hg
  go_wp2_with (first
    | (refine wpList_build_run rfl _ [_, _] rfl [(0, .pointer (some ⟨gd, 0, none⟩)), (1, .pointer (some ⟨gx, 0, none⟩))] rfl _ (builtPair _ _ _) ?_)
    | (refine wpList_store_at rfl _ _ _ rfl g2 0 [.pointer (some ⟨gd, 0, none⟩), .pointer (some ⟨gx, 0, none⟩)] rfl rfl 28 [] [.pointer none, .pointer none] [] (by simpa using HB2.out) rfl rfl iPair (fun u hu => by
        rcases List.mem_cons.1 hu with rfl | hu
        · rfl
        · rw [show u = .pointer (some ⟨gx, 0, none⟩) by simpa using hu]; rfl) ?_; intro w3 hb3 hbut3; rw [List.nil_append, List.append_nil] at hb3)
    | fail)
  refine bodyPost_ret (results_cell_row rfl _ _ g2 _ _ _ _ rfl hb3 Try.underlying28 rfl iPair) rfl ⟨gd, gx, rfl, ?_⟩
  have hgl : g2 < wa.heap.size := HB.out.lt
  have hw0 := HA.out.size
  have hno : ∀ k, own k ≠ .none → ¬ k = g2 := fun k hk e => by have := HD.out.new k hk; omega
  have hnr : ∀ k, ro k ≠ .none → ¬ k = g2 := fun k hk e => by have := HN2.out k hk; have := HD.out.grow.size; omega
  refine ⟨⟨own, ro, (HD.out.dv.grow HG2.out).but hbut3 hno, ?_, fun k hk => ?_, fun k hk => Nat.le_trans hw0 (HD.out.new k hk), fun k hk => ?_⟩, ?_⟩
  · obtain ⟨vs, vq, vc, vw, h⟩ := HR2.out
    exact ⟨vs, vq, vc, vw, h.but hbut3 hnr⟩
  · by_cases hq : ro k = .none
    · exact hq
    · have := HN2.out k hq
      have := HD.out.dv.top.lt hk
      omega
  · have := HN2.out k hk
    have := HD.out.grow.size
    omega
  · exact ((HA.out.trans HD.out.grow).trans HG2.out).then hbut3 (fun k hk e => by have := HG.out; omega)
end Go.Proofs.Ytfgcbcopgikodaa
/- Acts that came in, and the law's great. -/
namespace Go.Proofs.Ytfgcbcopgikodaa
open Go.RowKit

/-- An act: kind, a, b, data, fates. -/
structure DA where
  kind : Int
  a : Int
  b : Int
  dat : List Nat
  fat : List Int
def dcells (a : DA) (ud uf : Value) : List Value := [.int .i64 a.kind, .int .i64 a.a, .int .i64 a.b, ud, uf]
/-- The act a lies at cell o of block b. -/
structure DAct (w : World) (b o : Nat) (a : DA) : Prop where
  rk : -9223372036854775808 ≤ a.kind ∧ a.kind ≤ 9223372036854775807
  ra : -9223372036854775808 ≤ a.a ∧ a.a ≤ 9223372036854775807
  rb : -9223372036854775808 ≤ a.b ∧ a.b ≤ 9223372036854775807
  ex : ∃ ud uf, (∀ c u, (dcells a ud uf)[c]? = some u → w.cell? ⟨b, o + c, none⟩ = some u) ∧ Bs w ud a.dat ∧ IntS w uf a.fat
/-- The slice v holds the n acts A. -/
def DActs (w : World) (v : Value) (n : Nat) (A : Nat → DA) : Prop :=
  n ≤ 140737488351232 ∧ ((n = 0 ∧ ∃ ao cap, v = .slice ao 0 cap) ∨ (0 < n ∧ ∃ b off cap, v = .slice (some ⟨b, off, none⟩) n cap ∧ b < w.heap.size ∧ ∀ i, i < n → DAct w b (off + i * 5) (A i)))
theorem IntS.grow {w w' : World} {v : Value} {fs : List Int} (h : IntS w v fs) (k : Grow w w') : IntS w' v fs := (IntF.but (F := fun _ => True) ⟨h, fun _ _ _ => trivial⟩ k (fun _ _ h => h)).1
theorem IntS.len {w : World} {v : Value} {fs : List Int} (h : IntS w v fs) : ∃ a c, v = .slice a fs.length c := by
  obtain ⟨-, -, ⟨rfl, a, c, e⟩ | ⟨-, b, off, c, e, -⟩⟩ := h
  · exact ⟨a, c, e⟩
  · exact ⟨_, c, e⟩
theorem DAct.grow {w w' : World} {b o : Nat} {a : DA} (h : DAct w b o a) (hb : b < w.heap.size) (hg : Grow w w') : DAct w' b o a := by
  obtain ⟨ud, uf, h1, h2, h3⟩ := h.ex
  exact ⟨h.rk, h.ra, h.rb, ud, uf, fun c u hc => (World.cell?_of_block (hg.block b hb (fun h => h))).trans (h1 c u hc), h2.but hg (fun _ _ _ h => h), h3.grow hg⟩
def DSmall (a : DA) : Prop := a.dat.length ≤ 1000 ∧ a.fat.length ≤ 1000
structure DTold (w : World) (n : Nat) (A : Nat → DA) (b : Bool) (w' : World) : Prop where
  same : w' = w
  small : b = false → ∀ i, i < n → i < 200 → DSmall (A i)
def DGreatIs (w : World) (n : Nat) (A : Nat → DA) (e : Ending) (w' : World) : Prop := ∃ b, e = .returned (.bool b) ∧ DTold w n A b w'
set_option maxRecDepth 100000 in
theorem dgreat_any {w : World} {v : Value} {n : Nat} {A : Nat → DA} (h : DActs w v n A) : Calls Try.prog 7 #[v] w (DGreatIs w n A) := by
  obtain ⟨hn, h⟩ := h
  have HP0 : Hid (0 < n → ∃ b off cap, v = .slice (some ⟨b, off, none⟩) n cap ∧ b < w.heap.size ∧ ∀ i, i < n → DAct w b (off + i * 5) (A i)) := by
    rcases h with ⟨h, _⟩ | ⟨_, h⟩
    · intro h0; omega
    · exact fun _ => h
  obtain ⟨ao, cap, rfl⟩ : ∃ ao cap, v = .slice ao n cap := by
    rcases h with ⟨rfl, h⟩ | ⟨_, b, off, cap, h, _⟩
    · exact h
    · exact ⟨_, _, h⟩
  have HPG : Hid (0 < n → ∃ b off, ao = some ⟨b, off, none⟩ ∧ ∀ i, i < n → DAct w b (off + i * 5) (A i)) := fun h0 => by
    obtain ⟨b, off, cp, e, -, h⟩ := HP0.out h0
    simp only [Value.slice.injEq] at e
    exact ⟨b, off, e.1, h⟩
  clear h HP0
  go_enter Try.func7, Try.ntmps7
  go_wp2
  go_loopw [3] (fun i wr => ∃ k : Nat, k ≤ n ∧ k ≤ 200 ∧ i = .int .i64 k ∧ (∀ j, j < k → DSmall (A j)) ∧ wr = w) (fun i _ => n - (intOf i).toNat)
  case atStart => exact ⟨0, Nat.zero_le _, by decide, rfl, fun j hj => by omega, rfl⟩
  case round =>
    obtain ⟨k, hkn, hk2, rfl, hr, rfl⟩ := hrel
    have HR := Hid.mk' hr
    clear hr
    by_cases hlt : k < n
    · have hlti : (k : Int) < (n : Int) := by omega
      by_cases hk : k < 200
      · have hki : (k : Int) < 200 := by omega
        obtain ⟨b, off, rfl, hc⟩ := HPG.out (by omega)
        obtain ⟨ud, uf, h1, h2, h3⟩ := (hc k hlt).ex
        obtain ⟨a1, c1, rfl, -⟩ := h2.gen
        obtain ⟨a2, c2, rfl⟩ := h3.len
        have q3 := h1 3 _ rfl
        have q4 := h1 4 _ rfl
        have HSM : Hid ((A k).dat.length ≤ 1000 → (A k).fat.length ≤ 1000 → DSmall (A k)) := fun h1 h2 => ⟨h1, h2⟩
        clear hc h1 h2 h3
        generalize (A k).dat.length = l1 at *
        generalize (A k).fat.length = l2 at *
        by_cases g1 : l1 ≤ 1000
        · have g1i : ¬ (1000 : Int) < (l1 : Int) := by omega
          by_cases g2 : l2 ≤ 1000
          · have g2i : ¬ (1000 : Int) < (l2 : Int) := by omega
            have HRN : Hid (∀ j, j < k + 1 → DSmall (A j)) := fun j hj => by
              rcases Nat.lt_or_ge j k with h | h
              · exact HR.out j h
              · obtain rfl : j = k := by omega
                exact HSM.out g1 g2
            clear HR HSM
            go_wp2
            exact ⟨⟨k + 1, by omega, by omega, by go_num, HRN.out, by first | rfl | trivial⟩, by simp [intOf]; omega⟩
          · have g2i : (1000 : Int) < (l2 : Int) := by omega
            go_wp2
            go_ret
            exact ⟨true, rfl, rfl, fun h => by cases h⟩
        · have g1i : (1000 : Int) < (l1 : Int) := by omega
          go_wp2
          go_ret
          exact ⟨true, rfl, rfl, fun h => by cases h⟩
      · have hki : ¬ (k : Int) < 200 := by omega
        go_wp2
        go_ret
        exact ⟨false, rfl, rfl, fun _ i _ hi => HR.out i (by omega)⟩
    · have hlti : ¬ (k : Int) < (n : Int) := by omega
      go_wp2
      go_ret
      exact ⟨false, rfl, rfl, fun _ i hi _ => HR.out i (by omega)⟩
end Go.Proofs.Ytfgcbcopgikodaa
/- Both devices in one memory, with the blocks F that neither of them owns; each call on either, whatever it asks, as one contract. -/
namespace Go.Proofs.Ytfgcbcopgikodaa
open Go.RowKit

structure Tf (F : Nat → Prop) (w0 w : World) (gd gx : Nat) (s : Dev) (x : Rdv) : Prop where
  ex : ∃ own ro, Dv w own gd s ∧ Rd w ro gx x ∧ (∀ k, own k ≠ .none → ro k = .none) ∧ (∀ k, F k → own k = .none ∧ ro k = .none)
  fl : ∀ k, F k → k < w0.heap.size
  but : But (fun k => ¬ F k) w0 w
section
variable {F : Nat → Prop} {w0 w w' : World} {gd gx : Nat} {s : Dev} {x : Rdv}
theorem Tf.then (h : Tf F w0 w gd gx s x) (k : Grow w w') : Tf F w0 w' gd gx s x := by
  obtain ⟨own, ro, h1, h2, h3, h4⟩ := h.ex
  exact ⟨⟨own, ro, h1.grow k, h2.grow k, h3, h4⟩, h.fl, h.but.trans (k.mono (fun _ _ h => h.elim))⟩
theorem Tf.dev (h : Tf F w0 w gd gx s x) : ∃ own, Dv w own gd s ∧ (∀ k, F k → own k = .none) ∧ ∀ s' w', DvTo w own gd s' w' → Tf F w0 w' gd gx s' x := by
  obtain ⟨own, ro, h1, h2, h3, h4⟩ := h.ex
  refine ⟨own, h1, fun k hk => (h4 k hk).1, fun s' w' hto => ?_⟩
  obtain ⟨own', f, d⟩ := hto.ex
  refine ⟨⟨own', ro, d, ?_, fun k hk => ?_, fun k hk => ⟨?_, (h4 k hk).2⟩⟩, h.fl, h.but.then hto.but (fun k _ e hf => e (h4 k hf).1)⟩
  · obtain ⟨vs, vq, vc, vw, h2⟩ := h2
    exact ⟨vs, vq, vc, vw, h2.but hto.but (fun k hk e => hk (h3 k e))⟩
  · by_cases hq : own' k = own k
    · exact h3 k (by rw [← hq]; exact hk)
    · exact h2.top k (f k hq)
  · by_cases hq : own' k = own k
    · rw [hq]; exact (h4 k hk).1
    · have h5 := f k hq
      have h6 := h.fl k hk
      have h7 := h.but.size
      omega
theorem Tf.ref (h : Tf F w0 w gd gx s x) : ∃ ro, Rd w ro gx x ∧ (∀ k, F k → ro k = .none) ∧ ∀ x' w', RdTo w ro gx x' w' → Tf F w0 w' gd gx s x' := by
  obtain ⟨own, ro, h1, h2, h3, h4⟩ := h.ex
  refine ⟨ro, h2, fun k hk => (h4 k hk).2, fun x' w' hto => ?_⟩
  obtain ⟨ro', f, d⟩ := hto.ex
  have h6 : ∀ k, own k ≠ .none → ¬ ro k ≠ .none := fun k hk e => e (h3 k hk)
  refine ⟨⟨own, ro', h1.but hto.but h6, d, fun k hk => ?_, fun k hk => ⟨(h4 k hk).1, ?_⟩⟩, h.fl, h.but.then hto.but (fun k _ e hf => e (h4 k hf).2)⟩
  · by_cases hq : ro' k = ro k
    · rw [hq]; exact h3 k hk
    · exact absurd (h1.top k (f k hq)) hk
  · by_cases hq : ro' k = ro k
    · rw [hq]; exact (h4 k hk).2
    · have h5 := f k hq
      have h6 := h.fl k hk
      have h7 := h.but.size
      omega
theorem Tf.ok (h : Tf F w0 w gd gx s x) : s.ok := by obtain ⟨_, _, h1, _⟩ := h.ex; exact h1.ok
theorem Tf.xok (h : Tf F w0 w gd gx s x) : x.ok := by obtain ⟨_, _, _, h1, _⟩ := h.ex; exact h1.ok
theorem Tf.re (h : Tf F w0 w gd gx s x) : Tf F w w gd gx s x := ⟨h.ex, fun k hk => Nat.lt_of_lt_of_le (h.fl k hk) h.but.size, But.refl _ _⟩
/-- What is new is neither's. -/
theorem Tf.add (h : Tf F w0 w gd gx s x) (k : Grow w w') : Tf (fun b => F b ∨ (w.heap.size ≤ b ∧ b < w'.heap.size)) w' w' gd gx s x := by
  obtain ⟨own, ro, h1, h2, h3, h4⟩ := h.ex
  refine ⟨⟨own, ro, h1.grow k, h2.grow k, h3, fun b hb => ?_⟩, fun b hb => ?_, But.refl _ _⟩
  · rcases hb with hb | hb
    · exact h4 b hb
    · exact ⟨h1.top b hb.1, h2.top b hb.1⟩
  · rcases hb with hb | hb
    · have h5 := h.fl b hb
      have h6 := h.but.size
      have h7 := k.size
      omega
    · exact hb.2
theorem Tf.less {G : Nat → Prop} {v0 : World} (h : Tf F w0 w gd gx s x) (hg : ∀ k, G k → F k) (hl : ∀ k, G k → k < v0.heap.size) (hb : But (fun k => ¬ G k) v0 w) : Tf G v0 w gd gx s x := by
  obtain ⟨own, ro, h1, h2, h3, h4⟩ := h.ex
  exact ⟨⟨own, ro, h1, h2, h3, fun k hk => h4 k (hg k hk)⟩, hl, hb⟩
/-- Blocks that are neither's are turned. -/
theorem Tf.turn (h : Tf F w0 w gd gx s x) (k : But F w w') : Tf F w' w' gd gx s x := by
  obtain ⟨own, ro, h1, h2, h3, h4⟩ := h.ex
  refine ⟨⟨own, ro, h1.but k (fun b hb hf => hb (h4 b hf).1), ?_, h3, h4⟩, fun b hb => Nat.lt_of_lt_of_le (h.fl b hb) (Nat.le_trans h.but.size k.size), But.refl _ _⟩
  obtain ⟨vs, vq, vc, vw, h2⟩ := h2
  exact ⟨vs, vq, vc, vw, h2.but k (fun b hb hf => hb (h4 b hf).2)⟩
theorem Tf.bf {v : Value} {zs : List Nat} (h : Tf F w0 w gd gx s x) (hb : Bf w0 F v zs) : Bf w F v zs := hb.but h.but (fun _ h n => n h)
theorem Tf.intf {v : Value} {zs : List Int} (h : Tf F w0 w gd gx s x) (hb : IntF w0 F v zs) : IntF w F v zs := hb.but h.but (fun _ h n => n h)
theorem Tf.blk {g : Nat} {T : TypeId} {L : List Value} (h : Tf F w0 w gd gx s x) (hb : Blk w0 g T L) (hf : F g) : Blk w g T L := hb.but h.but (fun n => n hf)
theorem Tw.tf (h : Tw w0 w gd gx s x) : Tf (· < w0.heap.size) w0 w gd gx s x := by
  obtain ⟨own, ro, h1, h2, h3, h4, h5⟩ := h.ex
  refine ⟨⟨own, ro, h1, h2, h3, fun k hk => ⟨?_, ?_⟩⟩, fun _ h => h, h.grow.mono (fun _ _ h => h.elim)⟩
  · by_cases hq : own k = .none
    · exact hq
    · exact absurd (h4 k hq) (by omega)
  · by_cases hq : ro k = .none
    · exact hq
    · exact absurd (h5 k hq) (by omega)
end

def Dev.hasB (s : Dev) (y : Int) : Bool := decide (0 ≤ y ∧ y < (s.st.length : Int))
theorem hasB_nat {s : Dev} {y : Int} (h : s.hasB y = true) : ∃ b : Nat, y = (b : Int) ∧ b < s.st.length := by
  have h := of_decide_eq_true h
  exact ⟨y.toNat, by omega, by omega⟩
theorem hasB_not {s : Dev} {y : Int} (h : s.hasB y = false) : ¬ (0 ≤ y ∧ y < (s.st.length : Int)) := of_decide_eq_false h

/-- Bytes in memory that is new since base, and may be written into. -/
structure Nw (w : World) (base : Nat) (v : Value) (zs : List Nat) : Prop where
  bs : Bs w v zs
  ex : zs = [] ∨ ∃ g cap T R, v = .slice (some ⟨g, 0, none⟩) zs.length cap ∧ base ≤ g ∧ Blk w g T (u8s zs ++ R)

/-- What is small stays so. -/
structure Sm (s : Dev) (x : Rdv) (n : Nat) : Prop where
  wr : s.wr.length ≤ n
  cnt : s.cnt ≤ n
  im : s.im.length ≤ 8
  arm : s.arm ≤ 9223372036854775807
  xarm : x.arm ≤ 9223372036854775807
/-- There are as many blocks, and what was kept is kept. -/
structure Kp (s s' : Dev) : Prop where
  st : s'.st.length = s.st.length
  im : ∃ l, s'.im = s.im ++ l
theorem Kp.refl (s : Dev) : Kp s s := ⟨rfl, [], by simp⟩
theorem Kp.trans {a b c : Dev} (h : Kp a b) (k : Kp b c) : Kp a c := by
  obtain ⟨l, hl⟩ := h.im
  obtain ⟨m, hm⟩ := k.im
  exact ⟨k.st.trans h.st, l ++ m, by rw [hm, hl, List.append_assoc]⟩

section
variable {F : Nat → Prop} {w0 w : World} {gd gx n : Nat} {s s' : Dev} {x x' : Rdv} {v : Value} {xs ys : List Nat} {fs : List Int}
theorem Agr.offT (h : Agr s x) (hu : s.up = false) : x.off = true := by rw [h.off, hu]; rfl
theorem Agr.offF (h : Agr s x) (hu : s.up = true) : x.off = false := by rw [h.off, hu]; rfl
theorem Agr.wtl (h : Agr s x) (hok : s.ok) (b : Sm s x n) (hn : n ≤ 1000) : x.wt.length ≤ 100000 ∧ x.wt.length < 100000 := by
  have h1 := wt_len hok
  have h2 := b.wr
  rw [h.wt, List.length_map]
  omega
/- Read -/
def Dev.rcode (s : Dev) (y : Int) : Int := if s.up then (if s.hasB y then 0 else 1) else 7
def Dev.rbytes (s : Dev) (y : Int) : List Nat := if s.up then (if s.hasB y then s.now y.toNat else []) else []
theorem dread_all (h : Tf F w0 w gd gx s x) (y : Int) :
    Calls Try.prog 19 #[.pointer (some ⟨gd, 0, none⟩), .int .i64 y] w fun e w' => ∃ v, e = .returned (.tuple #[v, .int .i64 (s.rcode y)]) ∧ Nw w' w.heap.size v (s.rbytes y) ∧ Grow w w' := by
  obtain ⟨own, hd, -, -⟩ := h.dev
  unfold Dev.rcode Dev.rbytes
  cases hu : s.up
  · refine (read_down hd hu y).mono ?_
    rintro e w' ⟨rfl, rfl⟩
    exact ⟨_, rfl, ⟨Bs.nil _, .inl rfl⟩, But.refl _ _⟩
  · cases hy : s.hasB y
    · refine (read_arg hd hu y (hasB_not hy)).mono ?_
      rintro e w' ⟨rfl, rfl⟩
      exact ⟨_, rfl, ⟨Bs.nil _, .inl rfl⟩, But.refl _ _⟩
    · obtain ⟨b, rfl, hb⟩ := hasB_nat hy
      have hwf := hd.ok.now hb
      refine (read_any hd hu hb).mono ?_
      rintro e w' ⟨g, rfl, hg, hbk, hgr⟩
      refine ⟨_, rfl, ⟨hbk.bs hwf.1 (by decide) hwf.2 (by decide), .inr ⟨g, 256, 81, [], ?_, hg, ?_⟩⟩, hgr⟩
      · show _ = Value.slice _ (s.now b).length _
        rw [hwf.1]
      · rw [List.append_nil]; exact hbk
theorem rread_all (h : Tf F w0 w gd gx s' x) (ha : Agr s x) (hok : s.ok) (b : Sm s x n) (hn : n ≤ 1000) (y : Int) :
    Calls Try.prog 30 #[.pointer (some ⟨gx, 0, none⟩), .int .i64 y] w fun e w' => ∃ v, e = .returned (.tuple #[v, .int .i64 (s.rcode y)]) ∧ Bs w' v (s.rbytes y) ∧ Grow w w' := by
  obtain ⟨ro, hd, -, -⟩ := h.ref
  unfold Dev.rcode Dev.rbytes
  cases hu : s.up
  · refine (rread_off hd (ha.offT hu) y).mono ?_
    rintro e w' ⟨rfl, rfl⟩
    exact ⟨_, rfl, Bs.nil _, But.refl _ _⟩
  · cases hy : s.hasB y
    · refine (rread_arg hd (ha.offF hu) y (by rw [ha.st]; exact hasB_not hy)).mono ?_
      rintro e w' ⟨rfl, rfl⟩
      exact ⟨_, rfl, Bs.nil _, But.refl _ _⟩
    · obtain ⟨b', rfl, hb⟩ := hasB_nat hy
      refine (rread_any hd (ha.offF hu) (b := b') (by rw [ha.st]; exact hb) (ha.wtl hok b hn).1).mono ?_
      rintro e w' ⟨v, rfl, ho, hgr⟩
      refine ⟨_, rfl, ?_, hgr⟩
      rw [ha.now] at ho
      exact ho.bs
/- Write -/
def Dev.wok (s : Dev) (y : Int) (xs : List Nat) : Bool := s.hasB y && decide (xs.length = 256)
def Dev.wcode (s : Dev) (y : Int) (xs : List Nat) : Int := if s.up then (if s.wok y xs then (if s.arm = 1 then 7 else 0) else 1) else 7
def Dev.wrote (s : Dev) (y : Int) (xs : List Nat) : Dev := if s.up then (if s.wok y xs then (s.write y.toNat xs).acc else s) else s
theorem wok_not {y : Int} (h : s.wok y xs = false) : ¬ ((0 ≤ y ∧ y < (s.st.length : Int)) ∧ xs.length = 256) := by
  rintro ⟨h1, h2⟩
  unfold Dev.wok Dev.hasB at h
  rw [decide_eq_true h1, decide_eq_true h2] at h
  exact absurd h (by decide)
theorem wok_nat {y : Int} (h : s.wok y xs = true) : (∃ b : Nat, y = (b : Int) ∧ b < s.st.length) ∧ xs.length = 256 := by
  unfold Dev.wok at h
  rw [Bool.and_eq_true] at h
  exact ⟨hasB_nat h.1, of_decide_eq_true h.2⟩
theorem dwrite_all (h : Tf F w0 w gd gx s x) (y : Int) (hv : Bf w F v xs) (b : Sm s x n) (hn : n ≤ 1000) :
    Calls Try.prog 27 #[.pointer (some ⟨gd, 0, none⟩), .int .i64 y, v] w fun e w' => e = .returned (.int .i64 (s.wcode y xs)) ∧ Tf F w0 w' gd gx (s.wrote y xs) x := by
  obtain ⟨own, hd, hf, hto⟩ := h.dev
  have b1 := b.wr
  have b2 := b.cnt
  unfold Dev.wcode Dev.wrote
  cases hu : s.up
  · refine (write_down hd hu y v).mono ?_
    rintro e w' ⟨rfl, rfl⟩
    exact ⟨rfl, h⟩
  · cases hy : s.wok y xs
    · refine (write_arg hd hu y hv.1 (wok_not hy)).mono ?_
      rintro e w' ⟨rfl, rfl⟩
      exact ⟨rfl, h⟩
    · obtain ⟨⟨k, rfl, hb⟩, hx⟩ := wok_nat hy
      refine (write_any hd hu hb ⟨hv.1, fun h0 j hj => hf j (hv.2 h0 j hj)⟩ hx (by omega) (by omega) b.arm).mono ?_
      rintro e w' ⟨rfl, h1⟩
      exact ⟨rfl, hto _ _ h1⟩
theorem rwrite_all (h : Tf F w0 w gd gx s' x) (ha : Agr s x) (hok : s.ok) (y : Int) (hv : Bf w F v xs) (b : Sm s x n) (hn : n ≤ 1000) :
    Calls Try.prog 32 #[.pointer (some ⟨gx, 0, none⟩), .int .i64 y, v] w fun e w' => e = .returned (.int .i64 (s.wcode y xs)) ∧ ∃ x', Tf F w0 w' gd gx s' x' ∧ Agr (s.wrote y xs) x' ∧ x'.arm ≤ 9223372036854775807 := by
  obtain ⟨ro, hd, hf, hto⟩ := h.ref
  have b1 := b.wr
  have b2 := b.cnt
  have b3 := b.xarm
  unfold Dev.wcode Dev.wrote
  cases hu : s.up
  · refine (rwrite_off hd (ha.offT hu) y v).mono ?_
    rintro e w' ⟨rfl, rfl⟩
    exact ⟨rfl, x, h, ha, b3⟩
  · cases hy : s.wok y xs
    · refine (rwrite_arg hd (ha.offF hu) y hv.1 ?_).mono ?_
      · rw [ha.st]
        by_cases h2 : xs.length = 256
        · exact .inl (fun h1 => wok_not hy ⟨h1, h2⟩)
        · exact .inr h2
      · rintro e w' ⟨rfl, rfl⟩
        exact ⟨rfl, x, h, ha, b3⟩
    · obtain ⟨⟨k, rfl, hb⟩, hx⟩ := wok_nat hy
      refine (rwrite_any hd (ha.offF hu) (b := k) (by rw [ha.st]; exact hb) ⟨hv.1, fun h0 j hj => hf j (hv.2 h0 j hj)⟩ hx (ha.wtl hok b hn).2 (by rw [ha.wr]; omega) (by rw [ha.cnt]; omega) b3).mono ?_
      rintro e w' ⟨rfl, h1⟩
      rw [ha.arm hu]
      refine ⟨rfl, _, hto _ _ h1, (ha.write hok.wl k xs).acc hu, ?_⟩
      show x.arm - 1 ≤ _
      omega
/- Flush -/
def Dev.fcode (s : Dev) : Int := if s.up then (if s.arm = 1 then 7 else 0) else 7
def Dev.flu (s : Dev) : Dev := if s.up then (if s.arm = 1 then s.acc else s.acc.flushed) else s
theorem dflush_all (h : Tf F w0 w gd gx s x) (b : Sm s x n) (hn : n ≤ 1000) :
    Calls Try.prog 17 #[.pointer (some ⟨gd, 0, none⟩)] w fun e w' => e = .returned (.int .i64 s.fcode) ∧ Tf F w0 w' gd gx s.flu x := by
  obtain ⟨own, hd, hf, hto⟩ := h.dev
  have b2 := b.cnt
  unfold Dev.fcode Dev.flu
  cases hu : s.up
  · refine (flush_down hd hu).mono ?_
    rintro e w' ⟨rfl, rfl⟩
    exact ⟨rfl, h⟩
  · by_cases hy : s.arm = 1
    · refine (flush_gone hd hu (by omega) hy).mono ?_
      rintro e w' ⟨rfl, h1⟩
      rw [if_pos rfl, if_pos rfl, if_pos hy, if_pos hy]
      exact ⟨rfl, hto _ _ h1⟩
    · refine (flush_any hd hu (by omega) b.arm hy).mono ?_
      rintro e w' ⟨rfl, h1⟩
      rw [if_pos rfl, if_pos rfl, if_neg hy, if_neg hy]
      exact ⟨rfl, hto _ _ h1⟩
theorem rflush_all (h : Tf F w0 w gd gx s' x) (ha : Agr s x) (hok : s.ok) (b : Sm s x n) (hn : n ≤ 1000) :
    Calls Try.prog 33 #[.pointer (some ⟨gx, 0, none⟩)] w fun e w' => e = .returned (.int .i64 s.fcode) ∧ ∃ x', Tf F w0 w' gd gx s' x' ∧ Agr s.flu x' ∧ x'.arm ≤ 9223372036854775807 := by
  obtain ⟨ro, hd, hf, hto⟩ := h.ref
  have b2 := b.cnt
  have b3 := b.xarm
  unfold Dev.fcode Dev.flu
  cases hu : s.up
  · refine (rflush_off hd (ha.offT hu)).mono ?_
    rintro e w' ⟨rfl, rfl⟩
    exact ⟨rfl, x, h, ha, b3⟩
  · have hb : x.acc.arm ≤ 9223372036854775807 := by
      show x.arm - 1 ≤ _
      omega
    by_cases hy : s.arm = 1
    · refine (rflush_gone hd (ha.offF hu) (by rw [ha.cnt]; omega) (by rw [ha.arm hu]; exact hy)).mono ?_
      rintro e w' ⟨rfl, h1⟩
      rw [if_pos rfl, if_pos rfl, if_pos hy, if_pos hy]
      exact ⟨rfl, _, hto _ _ h1, ha.acc hu, hb⟩
    · refine (rflush_any hd (ha.offF hu) (by rw [ha.cnt]; omega) b3 (by rw [ha.arm hu]; exact hy) (ha.wtl hok b hn).1).mono ?_
      rintro e w' ⟨rfl, h1⟩
      rw [if_pos rfl, if_pos rfl, if_neg hy, if_neg hy]
      exact ⟨rfl, _, hto _ _ h1, (ha.acc hu).flushed, hb⟩
/- Spend -/
def Dev.spent (s : Dev) : Dev := if s.up then s.acc else s
theorem dspend_all (h : Tf F w0 w gd gx s x) (b : Sm s x n) (hn : n ≤ 1000) :
    Calls Try.prog 34 #[.pointer (some ⟨gd, 0, none⟩)] w fun e w' => e = .returned (.bool (s.up && !(s.arm == 1))) ∧ Tf F w0 w' gd gx s.spent x := by
  obtain ⟨own, hd, hf, hto⟩ := h.dev
  have b2 := b.cnt
  refine (spend_any hd (by omega) b.arm).mono ?_
  rintro e w' ⟨rfl, h1⟩
  exact ⟨rfl, hto _ _ h1⟩
theorem rspend_all (h : Tf F w0 w gd gx s' x) (ha : Agr s x) (b : Sm s x n) (hn : n ≤ 1000) :
    Calls Try.prog 35 #[.pointer (some ⟨gx, 0, none⟩)] w fun e w' => e = .returned (.bool (s.up && !(s.arm == 1))) ∧ ∃ x', Tf F w0 w' gd gx s' x' ∧ Agr s.spent x' ∧ x'.arm ≤ 9223372036854775807 := by
  obtain ⟨ro, hd, hf, hto⟩ := h.ref
  have b2 := b.cnt
  have b3 := b.xarm
  refine (rspend_any hd (by rw [ha.cnt]; omega) b3).mono ?_
  rintro e w' ⟨rfl, h1⟩
  unfold Dev.spent
  cases hu : s.up
  · rw [ha.offT hu] at h1 ⊢
    exact ⟨rfl, _, hto _ _ h1, ha, b3⟩
  · rw [ha.offF hu] at h1 ⊢
    rw [ha.arm hu]
    refine ⟨rfl, _, hto _ _ h1, ha.acc hu, ?_⟩
    show x.arm - 1 ≤ _
    omega
/- Arm, Crash -/
theorem darm_all (h : Tf F w0 w gd gx s x) (y : Int) :
    Calls Try.prog 16 #[.pointer (some ⟨gd, 0, none⟩), .int .i64 y] w fun e w' => e = .returned (.tuple #[]) ∧ Tf F w0 w' gd gx { s with arm := y.toNat } x := by
  obtain ⟨own, hd, hf, hto⟩ := h.dev
  refine (arm_any hd y).mono ?_
  rintro e w' ⟨rfl, h1⟩
  exact ⟨rfl, hto _ _ h1⟩
theorem rarm_all (h : Tf F w0 w gd gx s' x) (ha : Agr s x) (b : Sm s x n) (y : Int) (hy : y ≤ 9223372036854775807) :
    Calls Try.prog 36 #[.pointer (some ⟨gx, 0, none⟩), .int .i64 y] w fun e w' => e = .returned (.tuple #[]) ∧ ∃ x', Tf F w0 w' gd gx s' x' ∧ Agr { s with arm := y.toNat } x' ∧ x'.arm ≤ 9223372036854775807 := by
  obtain ⟨ro, hd, hf, hto⟩ := h.ref
  refine (rarm_any hd y).mono ?_
  rintro e w' ⟨rfl, h1⟩
  refine ⟨rfl, _, hto _ _ h1, ha.armed _, ?_⟩
  split
  · exact b.xarm
  · show y.toNat ≤ _
    omega
theorem dcrash_all (h : Tf F w0 w gd gx s x) :
    Calls Try.prog 20 #[.pointer (some ⟨gd, 0, none⟩)] w fun e w' => e = .returned (.tuple #[]) ∧ Tf F w0 w' gd gx { s with arm := 0, up := false } x := by
  obtain ⟨own, hd, hf, hto⟩ := h.dev
  refine (crash_any hd).mono ?_
  rintro e w' ⟨rfl, h1⟩
  exact ⟨rfl, hto _ _ h1⟩
theorem rcrash_all (h : Tf F w0 w gd gx s' x) (ha : Agr s x) :
    Calls Try.prog 37 #[.pointer (some ⟨gx, 0, none⟩)] w fun e w' => e = .returned (.tuple #[]) ∧ ∃ x', Tf F w0 w' gd gx s' x' ∧ Agr { s with arm := 0, up := false } x' ∧ x'.arm ≤ 9223372036854775807 := by
  obtain ⟨ro, hd, hf, hto⟩ := h.ref
  refine (rcrash_any hd).mono ?_
  rintro e w' ⟨rfl, h1⟩
  refine ⟨rfl, _, hto _ _ h1, ha.crash, ?_⟩
  show (0 : Nat) ≤ _
  decide
/- On -/
def Dev.ond (s : Dev) (fs : List Int) : Dev := if s.up then s else s.on fs
theorem don_all (h : Tf F w0 w gd gx s x) (hv : IntF w F v fs) (b : Sm s x n) (hn : n ≤ 1000) :
    Calls Try.prog 15 #[.pointer (some ⟨gd, 0, none⟩), v] w fun e w' => e = .returned (.tuple #[]) ∧ Tf F w0 w' gd gx (s.ond fs) x := by
  obtain ⟨own, hd, hf, hto⟩ := h.dev
  have b1 := b.wr
  unfold Dev.ond
  cases hu : s.up
  · refine (on_any hd hu ⟨hv.1, fun h0 j hj => hf j (hv.2 h0 j hj)⟩ (by omega)).mono ?_
    rintro e w' ⟨rfl, h1⟩
    exact ⟨rfl, hto _ _ h1⟩
  · refine (on_up hd hu v).mono ?_
    rintro e w' ⟨rfl, rfl⟩
    exact ⟨rfl, h⟩
theorem ron_all (h : Tf F w0 w gd gx s' x) (ha : Agr s x) (hok : s.ok) (hv : IntF w F v fs) (b : Sm s x n) (hn : n ≤ 1000) :
    Calls Try.prog 38 #[.pointer (some ⟨gx, 0, none⟩), v] w fun e w' => e = .returned (.tuple #[]) ∧ ∃ x', Tf F w0 w' gd gx s' x' ∧ Agr (s.ond fs) x' ∧ x'.arm ≤ 9223372036854775807 := by
  obtain ⟨ro, hd, hf, hto⟩ := h.ref
  unfold Dev.ond
  cases hu : s.up
  · by_cases h0 : 0 < fs.length
    · refine (ron_some hd (ha.offT hu) ⟨hv.1, fun h0 j hj => hf j (hv.2 h0 j hj)⟩ h0 (ha.wtl hok b hn).1).mono ?_
      rintro e w' ⟨rfl, h1⟩
      exact ⟨rfl, _, hto _ _ h1, ha.on fs, Nat.zero_le _⟩
    · obtain rfl : fs = [] := List.eq_nil_of_length_eq_zero (by omega)
      obtain ⟨ao, cap, rfl⟩ := hv.1.len
      refine (ron_none hd (ha.offT hu) ao cap (ha.wtl hok b hn).1).mono ?_
      rintro e w' ⟨rfl, h1⟩
      exact ⟨rfl, _, hto _ _ h1, ha.on [], Nat.zero_le _⟩
  · refine (ron_up hd (ha.offF hu) v).mono ?_
    rintro e w' ⟨rfl, rfl⟩
    exact ⟨rfl, x, h, ha, b.xarm⟩
/- Poke -/
def Dev.pok (s : Dev) (y z : Int) (ys : List Nat) : Bool := s.hasB y && decide (0 ≤ z ∧ (ys.length : Int) ≤ 256 - z)
def Dev.pcode (s : Dev) (y z : Int) (ys : List Nat) : Int := if s.pok y z ys then 0 else 1
def Dev.poked (s : Dev) (y z : Int) (ys : List Nat) : Dev := if s.pok y z ys then s.laid y.toNat (pokeTo (s.now y.toNat) z.toNat ys ys.length) else s
theorem pok_not {y z : Int} (h : s.pok y z ys = false) : ¬ ((0 ≤ y ∧ y < (s.st.length : Int)) ∧ 0 ≤ z ∧ (ys.length : Int) ≤ 256 - z) := by
  rintro ⟨h1, h2⟩
  unfold Dev.pok Dev.hasB at h
  rw [decide_eq_true h1, decide_eq_true h2] at h
  exact absurd h (by decide)
theorem pok_nat {y z : Int} (h : s.pok y z ys = true) : (∃ b : Nat, y = (b : Int) ∧ b < s.st.length) ∧ ∃ a : Nat, z = (a : Int) ∧ a + ys.length ≤ 256 := by
  unfold Dev.pok at h
  rw [Bool.and_eq_true] at h
  have h2 := of_decide_eq_true h.2
  exact ⟨hasB_nat h.1, z.toNat, by omega, by omega⟩
theorem dpoke_all (h : Tf F w0 w gd gx s x) (y z : Int) (hz : z ≤ 9223372036854775807) (hv : Bs w v ys) :
    Calls Try.prog 39 #[.pointer (some ⟨gd, 0, none⟩), .int .i64 y, .int .i64 z, v] w fun e w' => e = .returned (.int .i64 (s.pcode y z ys)) ∧ Tf F w0 w' gd gx (s.poked y z ys) x := by
  obtain ⟨own, hd, hf, hto⟩ := h.dev
  unfold Dev.pcode Dev.poked
  cases hy : s.pok y z ys
  · refine (poke_arg hd y z hz hv (pok_not hy)).mono ?_
    rintro e w' ⟨rfl, rfl⟩
    exact ⟨rfl, h⟩
  · obtain ⟨⟨b, rfl, hb⟩, a, rfl, ha⟩ := pok_nat hy
    refine (poke_any hd hb hv ha).mono ?_
    rintro e w' ⟨rfl, h1⟩
    exact ⟨rfl, hto _ _ h1⟩
theorem rpoke_all (h : Tf F w0 w gd gx s' x) (ha : Agr s x) (hok : s.ok) (y z : Int) (hz : z ≤ 9223372036854775807) (hv : Bs w v ys) (b : Sm s x n) (hn : n ≤ 1000) :
    Calls Try.prog 40 #[.pointer (some ⟨gx, 0, none⟩), .int .i64 y, .int .i64 z, v] w fun e w' => e = .returned (.int .i64 (s.pcode y z ys)) ∧ ∃ x', Tf F w0 w' gd gx s' x' ∧ Agr (s.poked y z ys) x' ∧ x'.arm ≤ 9223372036854775807 := by
  obtain ⟨ro, hd, hf, hto⟩ := h.ref
  unfold Dev.pcode Dev.poked
  cases hy : s.pok y z ys
  · refine (rpoke_arg hd y z hz hv (by rw [ha.st]; exact pok_not hy)).mono ?_
    rintro e w' ⟨rfl, rfl⟩
    exact ⟨rfl, x, h, ha, b.xarm⟩
  · obtain ⟨⟨k, rfl, hb⟩, a, rfl, haa⟩ := pok_nat hy
    refine (rpoke_any hd (b := k) (by rw [ha.st]; exact hb) (ha.wtl hok b hn).1 hv haa).mono ?_
    rintro e w' ⟨rfl, h1⟩
    rw [ha.now] at h1
    exact ⟨rfl, _, hto _ _ h1, ha.laid _ _, b.xarm⟩
/- Copy -/
def Dev.cok (s : Dev) (y z : Int) : Bool := s.hasB y && s.hasB z
def Dev.ccode (s : Dev) (y z : Int) : Int := if s.cok y z then 0 else 1
def Dev.copied (s : Dev) (y z : Int) : Dev := if s.cok y z then s.laid z.toNat (s.now y.toNat) else s
theorem cok_not {y z : Int} (h : s.cok y z = false) : ¬ ((0 ≤ y ∧ y < (s.st.length : Int)) ∧ (0 ≤ z ∧ z < (s.st.length : Int))) := by
  rintro ⟨h1, h2⟩
  unfold Dev.cok Dev.hasB at h
  rw [decide_eq_true h1, decide_eq_true h2] at h
  exact absurd h (by decide)
theorem dcopy_all (h : Tf F w0 w gd gx s x) (y z : Int) :
    Calls Try.prog 41 #[.pointer (some ⟨gd, 0, none⟩), .int .i64 y, .int .i64 z] w fun e w' => e = .returned (.int .i64 (s.ccode y z)) ∧ Tf F w0 w' gd gx (s.copied y z) x := by
  obtain ⟨own, hd, hf, hto⟩ := h.dev
  unfold Dev.ccode Dev.copied
  cases hy : s.cok y z
  · refine (dcopy_arg hd y z (cok_not hy)).mono ?_
    rintro e w' ⟨rfl, rfl⟩
    exact ⟨rfl, h⟩
  · have hy2 := hy
    unfold Dev.cok at hy2
    rw [Bool.and_eq_true] at hy2
    obtain ⟨a, rfl, ha⟩ := hasB_nat hy2.1
    obtain ⟨c, rfl, hc⟩ := hasB_nat hy2.2
    refine (dcopy_any hd ha hc).mono ?_
    rintro e w' ⟨rfl, h1⟩
    exact ⟨rfl, hto _ _ h1⟩
theorem rcopy_all (h : Tf F w0 w gd gx s' x) (ha : Agr s x) (hok : s.ok) (y z : Int) (b : Sm s x n) (hn : n ≤ 1000) :
    Calls Try.prog 42 #[.pointer (some ⟨gx, 0, none⟩), .int .i64 y, .int .i64 z] w fun e w' => e = .returned (.int .i64 (s.ccode y z)) ∧ ∃ x', Tf F w0 w' gd gx s' x' ∧ Agr (s.copied y z) x' ∧ x'.arm ≤ 9223372036854775807 := by
  obtain ⟨ro, hd, hf, hto⟩ := h.ref
  unfold Dev.ccode Dev.copied
  cases hy : s.cok y z
  · refine (rcopy_arg hd y z (by rw [ha.st]; exact cok_not hy)).mono ?_
    rintro e w' ⟨rfl, rfl⟩
    exact ⟨rfl, x, h, ha, b.xarm⟩
  · have hy2 := hy
    unfold Dev.cok at hy2
    rw [Bool.and_eq_true] at hy2
    obtain ⟨a, rfl, haa⟩ := hasB_nat hy2.1
    obtain ⟨c, rfl, hc⟩ := hasB_nat hy2.2
    refine (rcopy_any hd (a := a) (b := c) (by rw [ha.st]; exact haa) (by rw [ha.st]; exact hc) (ha.wtl hok b hn).1).mono ?_
    rintro e w' ⟨rfl, h1⟩
    rw [ha.now] at h1
    exact ⟨rfl, _, hto _ _ h1, ha.laid _ _, b.xarm⟩
/- Snap -/
def Dev.nnum (s : Dev) : Int := if s.im.length = 8 then 0 else (s.im.length : Int)
def Dev.ncode (s : Dev) : Int := if s.im.length = 8 then 11 else 0
def Dev.snapd (s : Dev) : Dev := if s.im.length = 8 then s else s.snapped
theorem dsnap_all (h : Tf F w0 w gd gx s x) (b : Sm s x n) :
    Calls Try.prog 23 #[.pointer (some ⟨gd, 0, none⟩)] w fun e w' => e = .returned (.tuple #[.int .i64 s.nnum, .int .i64 s.ncode]) ∧ Tf F w0 w' gd gx s.snapd x := by
  obtain ⟨own, hd, hf, hto⟩ := h.dev
  have b4 := b.im
  unfold Dev.nnum Dev.ncode Dev.snapd
  by_cases hy : s.im.length = 8
  · rw [if_pos hy, if_pos hy, if_pos hy]
    refine (snap_full hd hy).mono ?_
    rintro e w' ⟨rfl, rfl⟩
    exact ⟨rfl, h⟩
  · rw [if_neg hy, if_neg hy, if_neg hy]
    refine (snap_any hd (by omega)).mono ?_
    rintro e w' ⟨rfl, h1⟩
    exact ⟨rfl, hto _ _ h1⟩
theorem rsnap_all (h : Tf F w0 w gd gx s' x) (ha : Agr s x) (hok : s.ok) (b : Sm s x n) (hn : n ≤ 1000) :
    Calls Try.prog 43 #[.pointer (some ⟨gx, 0, none⟩)] w fun e w' => e = .returned (.tuple #[.int .i64 s.nnum, .int .i64 s.ncode]) ∧ ∃ x', Tf F w0 w' gd gx s' x' ∧ Agr s.snapd x' ∧ x'.arm ≤ 9223372036854775807 := by
  obtain ⟨ro, hd, hf, hto⟩ := h.ref
  have b4 := b.im
  unfold Dev.nnum Dev.ncode Dev.snapd
  by_cases hy : s.im.length = 8
  · rw [if_pos hy, if_pos hy, if_pos hy]
    refine (rsnap_full hd (by rw [ha.im]; exact hy)).mono ?_
    rintro e w' ⟨rfl, rfl⟩
    exact ⟨rfl, x, h, ha, b.xarm⟩
  · rw [if_neg hy, if_neg hy, if_neg hy]
    refine (rsnap_any hd (by rw [ha.im]; omega) (ha.wtl hok b hn).1).mono ?_
    rintro e w' ⟨rfl, h1⟩
    rw [ha.im]
    exact ⟨rfl, _, hto _ _ h1, ha.snapped, b.xarm⟩
/- Back -/
def Dev.iok (s : Dev) (y : Int) : Bool := decide (0 ≤ y ∧ y < (s.im.length : Int))
def Dev.bcode (s : Dev) (y : Int) : Int := if s.iok y then 0 else 1
def Dev.backd (s : Dev) (y : Int) : Dev := if s.iok y then s.backed y.toNat else s
theorem iok_nat {y : Int} (h : s.iok y = true) : ∃ b : Nat, y = (b : Int) ∧ b < s.im.length := by
  have h := of_decide_eq_true h
  exact ⟨y.toNat, by omega, by omega⟩
theorem dback_all (h : Tf F w0 w gd gx s x) (y : Int) :
    Calls Try.prog 24 #[.pointer (some ⟨gd, 0, none⟩), .int .i64 y] w fun e w' => e = .returned (.int .i64 (s.bcode y)) ∧ Tf F w0 w' gd gx (s.backd y) x := by
  obtain ⟨own, hd, hf, hto⟩ := h.dev
  unfold Dev.bcode Dev.backd
  cases hy : s.iok y
  · refine (back_arg hd y (of_decide_eq_false hy)).mono ?_
    rintro e w' ⟨rfl, rfl⟩
    exact ⟨rfl, h⟩
  · obtain ⟨k, rfl, hk⟩ := iok_nat hy
    refine (back_any hd hk).mono ?_
    rintro e w' ⟨rfl, h1⟩
    exact ⟨rfl, hto _ _ h1⟩
theorem rback_all (h : Tf F w0 w gd gx s' x) (ha : Agr s x) (y : Int) (b : Sm s x n) :
    Calls Try.prog 44 #[.pointer (some ⟨gx, 0, none⟩), .int .i64 y] w fun e w' => e = .returned (.int .i64 (s.bcode y)) ∧ ∃ x', Tf F w0 w' gd gx s' x' ∧ Agr (s.backd y) x' ∧ x'.arm ≤ 9223372036854775807 := by
  obtain ⟨ro, hd, hf, hto⟩ := h.ref
  unfold Dev.bcode Dev.backd
  cases hy : s.iok y
  · refine (rback_arg hd y (by rw [ha.im]; exact of_decide_eq_false hy)).mono ?_
    rintro e w' ⟨rfl, rfl⟩
    exact ⟨rfl, x, h, ha, b.xarm⟩
  · obtain ⟨k, rfl, hk⟩ := iok_nat hy
    refine (rback_any hd (k := k) (by rw [ha.im]; exact hk)).mono ?_
    rintro e w' ⟨rfl, h1⟩
    exact ⟨rfl, _, hto _ _ h1, ha.backed _, b.xarm⟩
/- What stays small, and what is kept. -/
theorem Sm.next (b : Sm s x n) (h1 : s'.wr.length ≤ s.wr.length + 1) (h2 : s'.cnt ≤ s.cnt + 1) (h3 : s'.im.length ≤ 8) (h4 : s'.arm ≤ 9223372036854775807) (h5 : x'.arm ≤ 9223372036854775807) : Sm s' x' (n + 1) :=
  ⟨by have := b.wr; omega, by have := b.cnt; omega, h3, h4, h5⟩
theorem Sm.up (b : Sm s x n) : Sm s x (n + 1) := ⟨Nat.le_succ_of_le b.wr, Nat.le_succ_of_le b.cnt, b.im, b.arm, b.xarm⟩
theorem Kp.im0 (h1 : s'.st.length = s.st.length) (h2 : s'.im = s.im) : Kp s s' := ⟨h1, [], by rw [h2, List.append_nil]⟩
theorem flushed_len (s : Dev) : s.flushed.st.length = s.st.length := by
  show ((List.range s.st.length).map s.now).length = _
  rw [List.length_map, List.length_range]
theorem keeps_wrote (b : Sm s x n) (hx : x'.arm ≤ 9223372036854775807) (y : Int) (xs : List Nat) : Sm (s.wrote y xs) x' (n + 1) ∧ Kp s (s.wrote y xs) := by
  have h4 := b.arm
  have h5 := b.im
  unfold Dev.wrote
  split
  · split
    · refine ⟨b.next ?_ (Nat.le_refl _) h5 ?_ hx, Kp.im0 rfl rfl⟩
      · show (s.wr ++ [_]).length ≤ _
        rw [List.length_append]; exact Nat.le_refl _
      · show s.arm - 1 ≤ _
        omega
    · exact ⟨b.next (Nat.le_succ _) (Nat.le_succ _) h5 h4 hx, Kp.refl s⟩
  · exact ⟨b.next (Nat.le_succ _) (Nat.le_succ _) h5 h4 hx, Kp.refl s⟩
theorem keeps_flu (b : Sm s x n) (hx : x'.arm ≤ 9223372036854775807) : Sm s.flu x' (n + 1) ∧ Kp s s.flu := by
  have h4 := b.arm
  have h5 := b.im
  have h6 : s.acc.arm ≤ 9223372036854775807 := by
    show s.arm - 1 ≤ _
    omega
  unfold Dev.flu
  split
  · split
    · exact ⟨b.next (Nat.le_succ _) (Nat.le_refl _) h5 h6 hx, Kp.im0 rfl rfl⟩
    · exact ⟨b.next (Nat.le_succ _) (Nat.le_refl _) h5 h6 hx, Kp.im0 (flushed_len s.acc) rfl⟩
  · exact ⟨b.next (Nat.le_succ _) (Nat.le_succ _) h5 h4 hx, Kp.refl s⟩
theorem keeps_spent (b : Sm s x n) (hx : x'.arm ≤ 9223372036854775807) : Sm s.spent x' (n + 1) ∧ Kp s s.spent := by
  have h4 := b.arm
  have h5 := b.im
  have h6 : s.acc.arm ≤ 9223372036854775807 := by
    show s.arm - 1 ≤ _
    omega
  unfold Dev.spent
  split
  · exact ⟨b.next (Nat.le_succ _) (Nat.le_refl _) h5 h6 hx, Kp.im0 rfl rfl⟩
  · exact ⟨b.next (Nat.le_succ _) (Nat.le_succ _) h5 h4 hx, Kp.refl s⟩
theorem keeps_arm (b : Sm s x n) (hx : x'.arm ≤ 9223372036854775807) (y : Int) (hy : y ≤ 9223372036854775807) : Sm { s with arm := y.toNat } x' (n + 1) ∧ Kp s { s with arm := y.toNat } :=
  ⟨b.next (Nat.le_succ _) (Nat.le_succ _) b.im (by show y.toNat ≤ _; omega) hx, Kp.im0 rfl rfl⟩
theorem keeps_crash (b : Sm s x n) (hx : x'.arm ≤ 9223372036854775807) : Sm { s with arm := 0, up := false } x' (n + 1) ∧ Kp s { s with arm := 0, up := false } :=
  ⟨b.next (Nat.le_succ _) (Nat.le_succ _) b.im (by show (0 : Nat) ≤ _; decide) hx, Kp.im0 rfl rfl⟩
theorem keeps_ond (b : Sm s x n) (hx : x'.arm ≤ 9223372036854775807) (fs : List Int) : Sm (s.ond fs) x' (n + 1) ∧ Kp s (s.ond fs) := by
  unfold Dev.ond
  split
  · exact ⟨b.next (Nat.le_succ _) (Nat.le_succ _) b.im b.arm hx, Kp.refl s⟩
  · exact ⟨b.next (Nat.le_succ _) (Nat.le_succ _) b.im (Nat.zero_le _) hx, Kp.im0 (tear_len _ _ _) rfl⟩
theorem keeps_laid (b : Sm s x n) (hx : x'.arm ≤ 9223372036854775807) (k : Nat) (D : List Nat) : Sm (s.laid k D) x' (n + 1) ∧ Kp s (s.laid k D) :=
  ⟨b.next (Nat.le_succ _) (Nat.le_succ _) b.im b.arm hx, Kp.im0 List.length_set rfl⟩
theorem keeps_poked (b : Sm s x n) (hx : x'.arm ≤ 9223372036854775807) (y z : Int) (ys : List Nat) : Sm (s.poked y z ys) x' (n + 1) ∧ Kp s (s.poked y z ys) := by
  unfold Dev.poked
  split
  · exact keeps_laid b hx _ _
  · exact ⟨b.next (Nat.le_succ _) (Nat.le_succ _) b.im b.arm hx, Kp.refl s⟩
theorem keeps_copied (b : Sm s x n) (hx : x'.arm ≤ 9223372036854775807) (y z : Int) : Sm (s.copied y z) x' (n + 1) ∧ Kp s (s.copied y z) := by
  unfold Dev.copied
  split
  · exact keeps_laid b hx _ _
  · exact ⟨b.next (Nat.le_succ _) (Nat.le_succ _) b.im b.arm hx, Kp.refl s⟩
theorem keeps_snapd (b : Sm s x n) (hx : x'.arm ≤ 9223372036854775807) : Sm s.snapd x' (n + 1) ∧ Kp s s.snapd := by
  have h5 := b.im
  unfold Dev.snapd
  split
  · exact ⟨b.next (Nat.le_succ _) (Nat.le_succ _) b.im b.arm hx, Kp.refl s⟩
  · refine ⟨b.next (Nat.le_succ _) (Nat.le_succ _) ?_ b.arm hx, ⟨rfl, [s.all], rfl⟩⟩
    show (s.im ++ [s.all]).length ≤ 8
    rw [List.length_append, List.length_singleton]
    omega
theorem keeps_backd (b : Sm s x n) (hok : s.ok) (hx : x'.arm ≤ 9223372036854775807) (y : Int) : Sm (s.backd y) x' (n + 1) ∧ Kp s (s.backd y) := by
  unfold Dev.backd
  cases hy : s.iok y
  · exact ⟨b.next (Nat.le_succ _) (Nat.le_succ _) b.im b.arm hx, Kp.refl s⟩
  · obtain ⟨k, rfl, hk⟩ := iok_nat hy
    refine ⟨b.next (Nat.le_succ _) (Nat.le_succ _) b.im b.arm hx, Kp.im0 ?_ rfl⟩
    show (s.im.getD k []).length = _
    rw [List.getD_eq_getElem?_getD, List.getElem?_eq_getElem hk]
    exact (hok.im _ (List.getElem_mem hk)).1
end
/-- What an act on both leaves. -/
structure DoTo (F : Nat → Prop) (w0 w : World) (gd gx : Nat) (s0 : Dev) (n : Nat) : Prop where
  ex : ∃ s x, Tf F w0 w gd gx s x ∧ Agr s x ∧ Sm s x n ∧ Kp s0 s
end Go.Proofs.Ytfgcbcopgikodaa
/- The reference's Pick: what is left of a number. -/
namespace Go.Proofs.Ytfgcbcopgikodaa
open Go.RowKit

theorem pick11 (x : Int) (w : World) :
    Calls Try.prog 10 #[.int .i64 x, .int .i64 11] w fun e w' => e = .returned (.int .i64 (x % 11)) ∧ w' = w := by
  have ht1 : x.tmod 11 < 11 := Int.tmod_lt_of_pos x (by omega)
  have ht2 : -(11 : Int) < x.tmod 11 := by
    have := Int.lt_tmod_of_pos x (b := (11 : Int)) (by omega)
    omega
  obtain ⟨m, hm⟩ : ∃ m, m = x.tmod 11 := ⟨_, rfl⟩
  have hem : x % 11 = if m < 0 then m + 11 else m := by
    have h5 := Int.emod_nonneg x (b := 11) (by decide)
    have h6 := Int.emod_lt_of_pos x (b := 11) (by decide)
    have h7 := Int.emod_add_mul_ediv x 11
    have h8 := Int.tmod_add_mul_tdiv x 11
    rw [hm]
    split <;> omega
  rw [← hm] at ht1 ht2
  have HEM := Hid.mk' hem
  clear hem
  by_cases hneg : m < 0
  · go_enter Try.func10, Try.ntmps10
    go_wp2
    go_ret
    refine ⟨?_, rfl⟩
    rw [HEM.out, if_pos hneg, hm]; rfl
  · go_enter Try.func10, Try.ntmps10
    go_wp2
    go_ret
    refine ⟨?_, rfl⟩
    rw [HEM.out, if_neg (by omega), hm]; rfl
theorem pick20 (x : Int) (w : World) :
    Calls Try.prog 10 #[.int .i64 x, .int .i64 20] w fun e w' => e = .returned (.int .i64 (x % 20)) ∧ w' = w := by
  have ht1 : x.tmod 20 < 20 := Int.tmod_lt_of_pos x (by omega)
  have ht2 : -(20 : Int) < x.tmod 20 := by
    have := Int.lt_tmod_of_pos x (b := (20 : Int)) (by omega)
    omega
  obtain ⟨m, hm⟩ : ∃ m, m = x.tmod 20 := ⟨_, rfl⟩
  have hem : x % 20 = if m < 0 then m + 20 else m := by
    have h5 := Int.emod_nonneg x (b := 20) (by decide)
    have h6 := Int.emod_lt_of_pos x (b := 20) (by decide)
    have h7 := Int.emod_add_mul_ediv x 20
    have h8 := Int.tmod_add_mul_tdiv x 20
    rw [hm]
    split <;> omega
  rw [← hm] at ht1 ht2
  have HEM := Hid.mk' hem
  clear hem
  by_cases hneg : m < 0
  · go_enter Try.func10, Try.ntmps10
    go_wp2
    go_ret
    refine ⟨?_, rfl⟩
    rw [HEM.out, if_pos hneg, hm]; rfl
  · go_enter Try.func10, Try.ntmps10
    go_wp2
    go_ret
    refine ⟨?_, rfl⟩
    rw [HEM.out, if_neg (by omega), hm]; rfl
theorem pick9 (x : Int) (w : World) :
    Calls Try.prog 10 #[.int .i64 x, .int .i64 9] w fun e w' => e = .returned (.int .i64 (x % 9)) ∧ w' = w := by
  have ht1 : x.tmod 9 < 9 := Int.tmod_lt_of_pos x (by omega)
  have ht2 : -(9 : Int) < x.tmod 9 := by
    have := Int.lt_tmod_of_pos x (b := (9 : Int)) (by omega)
    omega
  obtain ⟨m, hm⟩ : ∃ m, m = x.tmod 9 := ⟨_, rfl⟩
  have hem : x % 9 = if m < 0 then m + 9 else m := by
    have h5 := Int.emod_nonneg x (b := 9) (by decide)
    have h6 := Int.emod_lt_of_pos x (b := 9) (by decide)
    have h7 := Int.emod_add_mul_ediv x 9
    have h8 := Int.tmod_add_mul_tdiv x 9
    rw [hm]
    split <;> omega
  rw [← hm] at ht1 ht2
  have HEM := Hid.mk' hem
  clear hem
  by_cases hneg : m < 0
  · go_enter Try.func10, Try.ntmps10
    go_wp2
    go_ret
    refine ⟨?_, rfl⟩
    rw [HEM.out, if_pos hneg, hm]; rfl
  · go_enter Try.func10, Try.ntmps10
    go_wp2
    go_ret
    refine ⟨?_, rfl⟩
    rw [HEM.out, if_neg (by omega), hm]; rfl
end Go.Proofs.Ytfgcbcopgikodaa
/- The law's do: what all its cases share. -/
namespace Go.Proofs.Ytfgcbcopgikodaa
open Go.RowKit

/-- Amid the law's do: the pair and the act lie in boxes gp and ga. -/
structure Do1 (F : Nat → Prop) (wb w : World) (gp ga gd gx : Nat) (A : DA) (ud uf : Value) (s : Dev) (x : Rdv) : Prop where
  tf : Tf F wb w gd gx s x
  bp : Blk wb gp 28 [.pointer (some ⟨gd, 0, none⟩), .pointer (some ⟨gx, 0, none⟩)]
  ba : Blk wb ga 35 (dcells A ud uf)
  fp : F gp
  fa : F ga
  bd : Bf wb F ud A.dat
  bu : IntF wb F uf A.fat
section
variable {F G : Nat → Prop} {wb w w' : World} {gp ga gd gx : Nat} {A : DA} {ud uf : Value} {s s' : Dev} {x x' : Rdv}
theorem Do1.p (h : Do1 F wb w gp ga gd gx A ud uf s x) (i : Nat) : w.cell? ⟨gp, i, none⟩ = ([.pointer (some ⟨gd, 0, none⟩), .pointer (some ⟨gx, 0, none⟩)] : List Value)[i]? := (h.tf.blk h.bp h.fp).cell i
theorem Do1.a (h : Do1 F wb w gp ga gd gx A ud uf s x) (i : Nat) : w.cell? ⟨ga, i, none⟩ = (dcells A ud uf)[i]? := (h.tf.blk h.ba h.fa).cell i
theorem Do1.dat (h : Do1 F wb w gp ga gd gx A ud uf s x) : Bf w F ud A.dat := h.tf.bf h.bd
theorem Do1.fat (h : Do1 F wb w gp ga gd gx A ud uf s x) : IntF w F uf A.fat := h.tf.intf h.bu
theorem Do1.on (h : Do1 F wb w gp ga gd gx A ud uf s x) (k : Tf F wb w' gd gx s' x') : Do1 F wb w' gp ga gd gx A ud uf s' x' := ⟨k, h.bp, h.ba, h.fp, h.fa, h.bd, h.bu⟩
/-- The boxes, in any world that has what isn't either's. -/
theorem Do1.pS (h : Do1 F wb w gp ga gd gx A ud uf s x) (k : But (fun b => ¬ F b) wb w') (i : Nat) : w'.cell? ⟨gp, i, none⟩ = ([.pointer (some ⟨gd, 0, none⟩), .pointer (some ⟨gx, 0, none⟩)] : List Value)[i]? := (h.bp.but k (fun n => n h.fp)).cell i
theorem Do1.aS (h : Do1 F wb w gp ga gd gx A ud uf s x) (k : But (fun b => ¬ F b) wb w') (i : Nat) : w'.cell? ⟨ga, i, none⟩ = (dcells A ud uf)[i]? := (h.ba.but k (fun n => n h.fa)).cell i
end
/-- What do leaves. -/
def DoIs (F : Nat → Prop) (w0 : World) (gd gx : Nat) (s0 : Dev) (n : Nat) (e : Ending) (w' : World) : Prop := e = .returned (.bool true) ∧ DoTo F w0 w' gd gx s0 n
/-- What do is given. -/
structure DoIn (F : Nat → Prop) (w0 w : World) (gd gx : Nat) (s0 : Dev) (n : Nat) (A : DA) (ud uf : Value) : Prop where
  st : DoTo F w0 w gd gx s0 n
  le : n ≤ 900
  ra : -9223372036854775808 ≤ A.a ∧ A.a ≤ 9223372036854775807
  rb : -9223372036854775808 ≤ A.b ∧ A.b ≤ 9223372036854775807
  dat : Bf w F ud A.dat
  fat : IntF w F uf A.fat
  sm : DSmall A
def FB (F : Nat → Prop) (w wb : World) : Nat → Prop := fun b => F b ∨ (w.heap.size ≤ b ∧ b < wb.heap.size)
theorem DoIn.box {F : Nat → Prop} {w0 w wa wb : World} {gd gx n gp ga : Nat} {s0 : Dev} {A : DA} {ud uf : Value} (h : DoIn F w0 w gd gx s0 n A ud uf)
    (hwa : wa = w.alloc (.cells #[.pointer (some ⟨gd, 0, none⟩), .pointer (some ⟨gx, 0, none⟩)] 28)) (hwb : wb = wa.alloc (.cells (dcells A ud uf).toArray 35)) (hgp : gp = w.heap.size) (hga : ga = wa.heap.size) :
    ∃ s x, Agr s x ∧ Sm s x n ∧ Kp s0 s ∧ s.ok ∧ Do1 (FB F w wb) wb wb gp ga gd gx A ud uf s x ∧
      ∀ w' s' x', Tf (FB F w wb) wb w' gd gx s' x' → Agr s' x' → Sm s' x' (n + 1) ∧ Kp s s' → DoTo F w0 w' gd gx s0 (n + 1) := by
  obtain ⟨s, x, ht, ha, hb, hk⟩ := h.st.ex
  have g1 : Grow w wa := by rw [hwa]; exact (But.refl _ w).alloc _
  have g2 : Grow wa wb := by rw [hwb]; exact (But.refl _ wa).alloc _
  have g := g1.trans g2
  have b1 : Blk wa gp 28 [.pointer (some ⟨gd, 0, none⟩), .pointer (some ⟨gx, 0, none⟩)] := by rw [hwa]; exact Blk.new (L := [.pointer (some ⟨gd, 0, none⟩), .pointer (some ⟨gx, 0, none⟩)]) hgp.symm
  have b2 : Blk wb ga 35 (dcells A ud uf) := by rw [hwb]; exact Blk.new hga.symm
  have l1 := b1.lt
  have l2 := b2.lt
  have l3 := g1.size
  have l4 := g2.size
  refine ⟨s, x, ha, hb, hk, ht.ok, ⟨ht.add g, b1.but g2 (fun h => h), b2, .inr ⟨by omega, by omega⟩, .inr ⟨by omega, by omega⟩, ?_, ?_⟩, fun w' s' x' ht' ha' hb' => ⟨s', x', ht'.less (fun k hk => .inl hk) ht.fl ?_, ha', hb'.1, hk.trans hb'.2⟩⟩
  · have h1 := h.dat.but g (fun _ _ h => h)
    exact ⟨h1.1, fun h0 j hj => .inl (h1.2 h0 j hj)⟩
  · have h1 := h.fat.but g (fun _ _ h => h)
    exact ⟨h1.1, fun h0 j hj => .inl (h1.2 h0 j hj)⟩
  · exact (ht.but.trans (g.mono (fun _ _ h => h.elim))).then ht'.but (fun b _ hn hf => hn (.inl hf))
end Go.Proofs.Ytfgcbcopgikodaa
/- The law do: Flush, Spend, Poke, Copy, Back. -/
namespace Go.Proofs.Ytfgcbcopgikodaa
open Go.RowKit

set_option maxRecDepth 100000 in
set_option maxHeartbeats 4000000 in
theorem do_2 {F : Nat → Prop} {w0 w : World} {gd gx n : Nat} {s0 : Dev} {A : DA} {ud uf : Value} (h : DoIn F w0 w gd gx s0 n A ud uf) (hk : A.kind % 11 = 2) :
    Calls Try.prog 11 #[.agg #[.pointer (some ⟨gd, 0, none⟩), .pointer (some ⟨gx, 0, none⟩)], .agg (dcells A ud uf).toArray] w (DoIs F w0 gd gx s0 (n + 1)) := by
  have HIN := Hid.mk' h
  obtain ⟨wa, hwa⟩ : ∃ wa, wa = w.alloc (.cells #[.pointer (some ⟨gd, 0, none⟩), .pointer (some ⟨gx, 0, none⟩)] 28) := ⟨_, rfl⟩
  obtain ⟨wb, hwb⟩ : ∃ wb, wb = wa.alloc (.cells (dcells A ud uf).toArray 35) := ⟨_, rfl⟩
  obtain ⟨gp, hgp⟩ : ∃ gp, gp = w.heap.size := ⟨_, rfl⟩
  obtain ⟨ga, hga⟩ : ∃ ga, ga = wa.heap.size := ⟨_, rfl⟩
  obtain ⟨s, x, ha, hb, -, hok, hd, hfin⟩ := h.box hwa hwb hgp hga
  generalize FB F w wb = G at hd hfin
  have HA := Hid.mk' ha
  have HB := Hid.mk' hb
  have HOK := Hid.mk' hok
  have HD := Hid.mk' hd
  have HFIN := Hid.mk' hfin
  have HWA := Hid.mk' hwa
  have HWB := Hid.mk' hwb
  have HGP := Hid.mk' hgp
  have HGA : Hid (ga = w.heap.size + 1) := by show _ = _; rw [hga, hwa]; simp
  have HLE : Hid (n ≤ 1000) := Nat.le_trans h.le (by decide)
  have HPK := Hid.mk' (pick11 A.kind wb)
  rw [hk] at HPK
  have a0 : wb.cell? ⟨ga, 0, none⟩ = some (.int .i64 A.kind) := hd.a 0
  have a1 : wb.cell? ⟨ga, 1, none⟩ = some (.int .i64 A.a) := hd.a 1
  have a2 : wb.cell? ⟨ga, 2, none⟩ = some (.int .i64 A.b) := hd.a 2
  have a3 : wb.cell? ⟨ga, 3, none⟩ = some ud := hd.a 3
  have a4 : wb.cell? ⟨ga, 4, none⟩ = some uf := hd.a 4
  have p0 : wb.cell? ⟨gp, 0, none⟩ = some (.pointer (some ⟨gd, 0, none⟩)) := hd.p 0
  have p1 : wb.cell? ⟨gp, 1, none⟩ = some (.pointer (some ⟨gx, 0, none⟩)) := hd.p 1
  unfold dcells at HWB ⊢
  clear h ha hb hok hd hfin hwa hwb hgp hga hk
  go_enter Try.func11, Try.ntmps11
  go_upto_region 1 with fail
  rw [← HWA.out, ← HWB.out, ← HGA.out, ← HGP.out]
  go_wp2_with fail
  refine Calls.mono HPK.out ?_
  rintro e w1 ⟨rfl, hw1⟩
  have h2 := hw1.symm
  subst h2
  clear hw1 HPK HIN HWA HWB HGA HGP
  obtain ⟨c, hc⟩ : ∃ c, c = s.fcode := ⟨_, rfl⟩
  have EQ := Hid.mk' hc
  clear hc
  clear a0 a1 a2 a3 a4 p0 p1
  go_upto_region 25 with fail
  refine region_chain [([0, 1, 3, 4], 2), ([], 5)] [6, 7] (But (fun b => ¬ G b) wb) (Grow wb) (by kernel_rfl) (by kernel_rfl) (fun _ _ h k => h.trans k) (fun _ h => h.mono (fun _ _ h => h.elim)) ((But.refl _ wb).drew) ?_
  intro ι hne X hX
  have p0 : ∀ x, (X x).cell? ⟨gp, 0, none⟩ = some (.pointer (some ⟨gd, 0, none⟩)) := fun x => HD.out.pS (hX x) 0
  have p1 : ∀ x, (X x).cell? ⟨gp, 1, none⟩ = some (.pointer (some ⟨gx, 0, none⟩)) := fun x => HD.out.pS (hX x) 1
  iterate 4 (refine still_step rfl (fun K hK => ?_); go_simp; refine hK _ ?_; clear hK K)
  refine still_nil ?_
  clear hX hne p0 p1
  refine turn_call rfl rfl (fun v w' => v = .int .i64 c ∧ Tf G wb w' gd gx s.flu x) (fun _ => But (fun b => ¬ G b) wb) (fun _ _ _ h k => ⟨h.1, h.2.then k⟩) (fun _ _ h => h.2.but) (.inr (fun _ _ h => h)) 17 #[.pointer (some ⟨gd, 0, none⟩)] (fun _ => by kernel_rfl) ?_ ?_
  · intro w1 hw1
    have ht1 := HD.out.tf.then hw1
    refine Calls.mono (dflush_all ht1 HB.out HLE.out) ?_
    rintro e w2 ⟨rfl, h2⟩
    exact ⟨_, rfl, by rw [EQ.out], h2⟩
  rintro v ⟨wq, rfl, -⟩ Y hY
  clear wq
  go_simp
  refine hY _ ?_
  clear hY Y
  intro ι hne X hX
  refine still_nil ?_
  clear hX hne
  refine turn_call rfl rfl (fun v w' => v = .int .i64 c ∧ ∃ x', Tf G wb w' gd gx s.flu x' ∧ Agr s.flu x' ∧ x'.arm ≤ 9223372036854775807) (fun _ => But (fun b => ¬ G b) wb) (fun _ _ _ h k => ⟨h.1, h.2.imp (fun _ h => ⟨h.1.then k, h.2⟩)⟩) (fun _ _ ⟨_, _, h, _⟩ => h.but) (.inr (fun _ _ h => h)) 33 #[.pointer (some ⟨gx, 0, none⟩)] (fun _ => by kernel_rfl) ?_ ?_
  · rintro w1 ⟨-, ht1⟩
    refine Calls.mono (rflush_all ht1 HA.out HOK.out HB.out HLE.out) ?_
    rintro e w2 ⟨rfl, h2⟩
    exact ⟨_, rfl, by rw [EQ.out], h2⟩
  rintro v ⟨wq, rfl, -⟩ Y hY
  clear wq
  go_simp
  refine hY _ ?_
  clear hY Y
  intro ι hne X hX
  iterate 2 (refine still_step rfl (fun K hK => ?_); go_simp; refine hK _ ?_; clear hK K)
  refine still_nil ?_
  clear hX hne
  rintro w2 ⟨-, x', ht2, ha2, hx2⟩
  have HE := Hid.mk' (HFIN.out _ _ _ ht2 ha2 (keeps_flu HB.out hx2))
  clear ht2 ha2 hx2
  go_wp2
  go_ret
  exact ⟨rfl, HE.out⟩
set_option maxRecDepth 100000 in
set_option maxHeartbeats 4000000 in
theorem do_3 {F : Nat → Prop} {w0 w : World} {gd gx n : Nat} {s0 : Dev} {A : DA} {ud uf : Value} (h : DoIn F w0 w gd gx s0 n A ud uf) (hk : A.kind % 11 = 3) :
    Calls Try.prog 11 #[.agg #[.pointer (some ⟨gd, 0, none⟩), .pointer (some ⟨gx, 0, none⟩)], .agg (dcells A ud uf).toArray] w (DoIs F w0 gd gx s0 (n + 1)) := by
  have HIN := Hid.mk' h
  obtain ⟨wa, hwa⟩ : ∃ wa, wa = w.alloc (.cells #[.pointer (some ⟨gd, 0, none⟩), .pointer (some ⟨gx, 0, none⟩)] 28) := ⟨_, rfl⟩
  obtain ⟨wb, hwb⟩ : ∃ wb, wb = wa.alloc (.cells (dcells A ud uf).toArray 35) := ⟨_, rfl⟩
  obtain ⟨gp, hgp⟩ : ∃ gp, gp = w.heap.size := ⟨_, rfl⟩
  obtain ⟨ga, hga⟩ : ∃ ga, ga = wa.heap.size := ⟨_, rfl⟩
  obtain ⟨s, x, ha, hb, -, hok, hd, hfin⟩ := h.box hwa hwb hgp hga
  generalize FB F w wb = G at hd hfin
  have HA := Hid.mk' ha
  have HB := Hid.mk' hb
  have HOK := Hid.mk' hok
  have HD := Hid.mk' hd
  have HFIN := Hid.mk' hfin
  have HWA := Hid.mk' hwa
  have HWB := Hid.mk' hwb
  have HGP := Hid.mk' hgp
  have HGA : Hid (ga = w.heap.size + 1) := by show _ = _; rw [hga, hwa]; simp
  have HLE : Hid (n ≤ 1000) := Nat.le_trans h.le (by decide)
  have HPK := Hid.mk' (pick11 A.kind wb)
  rw [hk] at HPK
  have a0 : wb.cell? ⟨ga, 0, none⟩ = some (.int .i64 A.kind) := hd.a 0
  have a1 : wb.cell? ⟨ga, 1, none⟩ = some (.int .i64 A.a) := hd.a 1
  have a2 : wb.cell? ⟨ga, 2, none⟩ = some (.int .i64 A.b) := hd.a 2
  have a3 : wb.cell? ⟨ga, 3, none⟩ = some ud := hd.a 3
  have a4 : wb.cell? ⟨ga, 4, none⟩ = some uf := hd.a 4
  have p0 : wb.cell? ⟨gp, 0, none⟩ = some (.pointer (some ⟨gd, 0, none⟩)) := hd.p 0
  have p1 : wb.cell? ⟨gp, 1, none⟩ = some (.pointer (some ⟨gx, 0, none⟩)) := hd.p 1
  unfold dcells at HWB ⊢
  clear h ha hb hok hd hfin hwa hwb hgp hga hk
  go_enter Try.func11, Try.ntmps11
  go_upto_region 1 with fail
  rw [← HWA.out, ← HWB.out, ← HGA.out, ← HGP.out]
  go_wp2_with fail
  refine Calls.mono HPK.out ?_
  rintro e w1 ⟨rfl, hw1⟩
  have h2 := hw1.symm
  subst h2
  clear hw1 HPK HIN HWA HWB HGA HGP
  obtain ⟨r, hr⟩ : ∃ r, r = (s.up && !(s.arm == 1)) := ⟨_, rfl⟩
  have EQ := Hid.mk' hr
  clear hr
  clear a0 a1 a2 a3 a4 p0 p1
  go_upto_region 27 with fail
  refine region_chain [([0, 1, 3, 4], 2), ([], 5)] [6, 7] (But (fun b => ¬ G b) wb) (Grow wb) (by kernel_rfl) (by kernel_rfl) (fun _ _ h k => h.trans k) (fun _ h => h.mono (fun _ _ h => h.elim)) ((But.refl _ wb).drew) ?_
  intro ι hne X hX
  have p0 : ∀ x, (X x).cell? ⟨gp, 0, none⟩ = some (.pointer (some ⟨gd, 0, none⟩)) := fun x => HD.out.pS (hX x) 0
  have p1 : ∀ x, (X x).cell? ⟨gp, 1, none⟩ = some (.pointer (some ⟨gx, 0, none⟩)) := fun x => HD.out.pS (hX x) 1
  iterate 4 (refine still_step rfl (fun K hK => ?_); go_simp; refine hK _ ?_; clear hK K)
  refine still_nil ?_
  clear hX hne p0 p1
  refine turn_call rfl rfl (fun v w' => v = .bool r ∧ Tf G wb w' gd gx s.spent x) (fun _ => But (fun b => ¬ G b) wb) (fun _ _ _ h k => ⟨h.1, h.2.then k⟩) (fun _ _ h => h.2.but) (.inr (fun _ _ h => h)) 34 #[.pointer (some ⟨gd, 0, none⟩)] (fun _ => by kernel_rfl) ?_ ?_
  · intro w1 hw1
    have ht1 := HD.out.tf.then hw1
    refine Calls.mono (dspend_all ht1 HB.out HLE.out) ?_
    rintro e w2 ⟨rfl, h2⟩
    exact ⟨_, rfl, by rw [EQ.out], h2⟩
  rintro v ⟨wq, rfl, -⟩ Y hY
  clear wq
  go_simp
  refine hY _ ?_
  clear hY Y
  intro ι hne X hX
  refine still_nil ?_
  clear hX hne
  refine turn_call rfl rfl (fun v w' => v = .bool r ∧ ∃ x', Tf G wb w' gd gx s.spent x' ∧ Agr s.spent x' ∧ x'.arm ≤ 9223372036854775807) (fun _ => But (fun b => ¬ G b) wb) (fun _ _ _ h k => ⟨h.1, h.2.imp (fun _ h => ⟨h.1.then k, h.2⟩)⟩) (fun _ _ ⟨_, _, h, _⟩ => h.but) (.inr (fun _ _ h => h)) 35 #[.pointer (some ⟨gx, 0, none⟩)] (fun _ => by kernel_rfl) ?_ ?_
  · rintro w1 ⟨-, ht1⟩
    refine Calls.mono (rspend_all ht1 HA.out HB.out HLE.out) ?_
    rintro e w2 ⟨rfl, h2⟩
    exact ⟨_, rfl, by rw [EQ.out], h2⟩
  rintro v ⟨wq, rfl, -⟩ Y hY
  clear wq
  go_simp
  refine hY _ ?_
  clear hY Y
  intro ι hne X hX
  iterate 2 (refine still_step rfl (fun K hK => ?_); go_simp; refine hK _ ?_; clear hK K)
  refine still_nil ?_
  clear hX hne
  rintro w2 ⟨-, x', ht2, ha2, hx2⟩
  have HE := Hid.mk' (HFIN.out _ _ _ ht2 ha2 (keeps_spent HB.out hx2))
  clear ht2 ha2 hx2
  go_wp2
  go_ret
  exact ⟨rfl, HE.out⟩
set_option maxRecDepth 100000 in
set_option maxHeartbeats 4000000 in
theorem do_7 {F : Nat → Prop} {w0 w : World} {gd gx n : Nat} {s0 : Dev} {A : DA} {ud uf : Value} (h : DoIn F w0 w gd gx s0 n A ud uf) (hk : A.kind % 11 = 7) :
    Calls Try.prog 11 #[.agg #[.pointer (some ⟨gd, 0, none⟩), .pointer (some ⟨gx, 0, none⟩)], .agg (dcells A ud uf).toArray] w (DoIs F w0 gd gx s0 (n + 1)) := by
  have HIN := Hid.mk' h
  have HRB := Hid.mk' h.rb.2
  obtain ⟨wa, hwa⟩ : ∃ wa, wa = w.alloc (.cells #[.pointer (some ⟨gd, 0, none⟩), .pointer (some ⟨gx, 0, none⟩)] 28) := ⟨_, rfl⟩
  obtain ⟨wb, hwb⟩ : ∃ wb, wb = wa.alloc (.cells (dcells A ud uf).toArray 35) := ⟨_, rfl⟩
  obtain ⟨gp, hgp⟩ : ∃ gp, gp = w.heap.size := ⟨_, rfl⟩
  obtain ⟨ga, hga⟩ : ∃ ga, ga = wa.heap.size := ⟨_, rfl⟩
  obtain ⟨s, x, ha, hb, -, hok, hd, hfin⟩ := h.box hwa hwb hgp hga
  generalize FB F w wb = G at hd hfin
  have HA := Hid.mk' ha
  have HB := Hid.mk' hb
  have HOK := Hid.mk' hok
  have HD := Hid.mk' hd
  have HFIN := Hid.mk' hfin
  have HWA := Hid.mk' hwa
  have HWB := Hid.mk' hwb
  have HGP := Hid.mk' hgp
  have HGA : Hid (ga = w.heap.size + 1) := by show _ = _; rw [hga, hwa]; simp
  have HLE : Hid (n ≤ 1000) := Nat.le_trans h.le (by decide)
  have HPK := Hid.mk' (pick11 A.kind wb)
  rw [hk] at HPK
  have a0 : wb.cell? ⟨ga, 0, none⟩ = some (.int .i64 A.kind) := hd.a 0
  have a1 : wb.cell? ⟨ga, 1, none⟩ = some (.int .i64 A.a) := hd.a 1
  have a2 : wb.cell? ⟨ga, 2, none⟩ = some (.int .i64 A.b) := hd.a 2
  have a3 : wb.cell? ⟨ga, 3, none⟩ = some ud := hd.a 3
  have a4 : wb.cell? ⟨ga, 4, none⟩ = some uf := hd.a 4
  have p0 : wb.cell? ⟨gp, 0, none⟩ = some (.pointer (some ⟨gd, 0, none⟩)) := hd.p 0
  have p1 : wb.cell? ⟨gp, 1, none⟩ = some (.pointer (some ⟨gx, 0, none⟩)) := hd.p 1
  unfold dcells at HWB ⊢
  clear h ha hb hok hd hfin hwa hwb hgp hga hk
  go_enter Try.func11, Try.ntmps11
  go_upto_region 1 with fail
  rw [← HWA.out, ← HWB.out, ← HGA.out, ← HGP.out]
  go_wp2_with fail
  refine Calls.mono HPK.out ?_
  rintro e w1 ⟨rfl, hw1⟩
  have h2 := hw1.symm
  subst h2
  clear hw1 HPK HIN HWA HWB HGA HGP
  obtain ⟨c, hc⟩ : ∃ c, c = s.pcode A.a A.b A.dat := ⟨_, rfl⟩
  have EQ := Hid.mk' hc
  clear hc
  clear a0 a1 a2 a3 a4 p0 p1
  go_upto_region 38 with fail
  refine region_chain [([0, 1, 2, 3, 4, 5, 6, 7, 9, 10, 11, 12, 13, 14, 15, 16], 8), ([], 17)] [18, 19] (But (fun b => ¬ G b) wb) (Grow wb) (by kernel_rfl) (by kernel_rfl) (fun _ _ h k => h.trans k) (fun _ h => h.mono (fun _ _ h => h.elim)) ((But.refl _ wb).drew) ?_
  intro ι hne X hX
  have p0 : ∀ x, (X x).cell? ⟨gp, 0, none⟩ = some (.pointer (some ⟨gd, 0, none⟩)) := fun x => HD.out.pS (hX x) 0
  have p1 : ∀ x, (X x).cell? ⟨gp, 1, none⟩ = some (.pointer (some ⟨gx, 0, none⟩)) := fun x => HD.out.pS (hX x) 1
  have a1 : ∀ x, (X x).cell? ⟨ga, 1, none⟩ = some (.int .i64 A.a) := fun x => HD.out.aS (hX x) 1
  have a2 : ∀ x, (X x).cell? ⟨ga, 2, none⟩ = some (.int .i64 A.b) := fun x => HD.out.aS (hX x) 2
  have a3 : ∀ x, (X x).cell? ⟨ga, 3, none⟩ = some (ud) := fun x => HD.out.aS (hX x) 3
  iterate 16 (refine still_step rfl (fun K hK => ?_); go_simp; refine hK _ ?_; clear hK K)
  refine still_nil ?_
  clear hX hne p0 p1 a1 a2 a3
  refine turn_call rfl rfl (fun v w' => v = .int .i64 c ∧ Tf G wb w' gd gx (s.poked A.a A.b A.dat) x) (fun _ => But (fun b => ¬ G b) wb) (fun _ _ _ h k => ⟨h.1, h.2.then k⟩) (fun _ _ h => h.2.but) (.inr (fun _ _ h => h)) 39 #[.pointer (some ⟨gd, 0, none⟩), .int .i64 A.a, .int .i64 A.b, ud] (fun _ => by kernel_rfl) ?_ ?_
  · intro w1 hw1
    have ht1 := HD.out.tf.then hw1
    refine Calls.mono (dpoke_all ht1 A.a A.b HRB.out (HD.out.on ht1).dat.1) ?_
    rintro e w2 ⟨rfl, h2⟩
    exact ⟨_, rfl, by rw [EQ.out], h2⟩
  rintro v ⟨wq, rfl, -⟩ Y hY
  clear wq
  go_simp
  refine hY _ ?_
  clear hY Y
  intro ι hne X hX
  refine still_nil ?_
  clear hX hne
  refine turn_call rfl rfl (fun v w' => v = .int .i64 c ∧ ∃ x', Tf G wb w' gd gx (s.poked A.a A.b A.dat) x' ∧ Agr (s.poked A.a A.b A.dat) x' ∧ x'.arm ≤ 9223372036854775807) (fun _ => But (fun b => ¬ G b) wb) (fun _ _ _ h k => ⟨h.1, h.2.imp (fun _ h => ⟨h.1.then k, h.2⟩)⟩) (fun _ _ ⟨_, _, h, _⟩ => h.but) (.inr (fun _ _ h => h)) 40 #[.pointer (some ⟨gx, 0, none⟩), .int .i64 A.a, .int .i64 A.b, ud] (fun _ => by kernel_rfl) ?_ ?_
  · rintro w1 ⟨-, ht1⟩
    refine Calls.mono (rpoke_all ht1 HA.out HOK.out A.a A.b HRB.out (HD.out.on ht1).dat.1 HB.out HLE.out) ?_
    rintro e w2 ⟨rfl, h2⟩
    exact ⟨_, rfl, by rw [EQ.out], h2⟩
  rintro v ⟨wq, rfl, -⟩ Y hY
  clear wq
  go_simp
  refine hY _ ?_
  clear hY Y
  intro ι hne X hX
  iterate 2 (refine still_step rfl (fun K hK => ?_); go_simp; refine hK _ ?_; clear hK K)
  refine still_nil ?_
  clear hX hne
  rintro w2 ⟨-, x', ht2, ha2, hx2⟩
  have HE := Hid.mk' (HFIN.out _ _ _ ht2 ha2 (keeps_poked HB.out hx2 A.a A.b A.dat))
  clear ht2 ha2 hx2
  go_wp2
  go_ret
  exact ⟨rfl, HE.out⟩
set_option maxRecDepth 100000 in
set_option maxHeartbeats 4000000 in
theorem do_8 {F : Nat → Prop} {w0 w : World} {gd gx n : Nat} {s0 : Dev} {A : DA} {ud uf : Value} (h : DoIn F w0 w gd gx s0 n A ud uf) (hk : A.kind % 11 = 8) :
    Calls Try.prog 11 #[.agg #[.pointer (some ⟨gd, 0, none⟩), .pointer (some ⟨gx, 0, none⟩)], .agg (dcells A ud uf).toArray] w (DoIs F w0 gd gx s0 (n + 1)) := by
  have HIN := Hid.mk' h
  obtain ⟨wa, hwa⟩ : ∃ wa, wa = w.alloc (.cells #[.pointer (some ⟨gd, 0, none⟩), .pointer (some ⟨gx, 0, none⟩)] 28) := ⟨_, rfl⟩
  obtain ⟨wb, hwb⟩ : ∃ wb, wb = wa.alloc (.cells (dcells A ud uf).toArray 35) := ⟨_, rfl⟩
  obtain ⟨gp, hgp⟩ : ∃ gp, gp = w.heap.size := ⟨_, rfl⟩
  obtain ⟨ga, hga⟩ : ∃ ga, ga = wa.heap.size := ⟨_, rfl⟩
  obtain ⟨s, x, ha, hb, -, hok, hd, hfin⟩ := h.box hwa hwb hgp hga
  generalize FB F w wb = G at hd hfin
  have HA := Hid.mk' ha
  have HB := Hid.mk' hb
  have HOK := Hid.mk' hok
  have HD := Hid.mk' hd
  have HFIN := Hid.mk' hfin
  have HWA := Hid.mk' hwa
  have HWB := Hid.mk' hwb
  have HGP := Hid.mk' hgp
  have HGA : Hid (ga = w.heap.size + 1) := by show _ = _; rw [hga, hwa]; simp
  have HLE : Hid (n ≤ 1000) := Nat.le_trans h.le (by decide)
  have HPK := Hid.mk' (pick11 A.kind wb)
  rw [hk] at HPK
  have a0 : wb.cell? ⟨ga, 0, none⟩ = some (.int .i64 A.kind) := hd.a 0
  have a1 : wb.cell? ⟨ga, 1, none⟩ = some (.int .i64 A.a) := hd.a 1
  have a2 : wb.cell? ⟨ga, 2, none⟩ = some (.int .i64 A.b) := hd.a 2
  have a3 : wb.cell? ⟨ga, 3, none⟩ = some ud := hd.a 3
  have a4 : wb.cell? ⟨ga, 4, none⟩ = some uf := hd.a 4
  have p0 : wb.cell? ⟨gp, 0, none⟩ = some (.pointer (some ⟨gd, 0, none⟩)) := hd.p 0
  have p1 : wb.cell? ⟨gp, 1, none⟩ = some (.pointer (some ⟨gx, 0, none⟩)) := hd.p 1
  unfold dcells at HWB ⊢
  clear h ha hb hok hd hfin hwa hwb hgp hga hk
  go_enter Try.func11, Try.ntmps11
  go_upto_region 1 with fail
  rw [← HWA.out, ← HWB.out, ← HGA.out, ← HGP.out]
  go_wp2_with fail
  refine Calls.mono HPK.out ?_
  rintro e w1 ⟨rfl, hw1⟩
  have h2 := hw1.symm
  subst h2
  clear hw1 HPK HIN HWA HWB HGA HGP
  obtain ⟨c, hc⟩ : ∃ c, c = s.ccode A.a A.b := ⟨_, rfl⟩
  have EQ := Hid.mk' hc
  clear hc
  clear a0 a1 a2 a3 a4 p0 p1
  go_upto_region 40 with fail
  refine region_chain [([0, 1, 2, 3, 4, 5, 7, 8, 9, 10, 11, 12], 6), ([], 13)] [14, 15] (But (fun b => ¬ G b) wb) (Grow wb) (by kernel_rfl) (by kernel_rfl) (fun _ _ h k => h.trans k) (fun _ h => h.mono (fun _ _ h => h.elim)) ((But.refl _ wb).drew) ?_
  intro ι hne X hX
  have p0 : ∀ x, (X x).cell? ⟨gp, 0, none⟩ = some (.pointer (some ⟨gd, 0, none⟩)) := fun x => HD.out.pS (hX x) 0
  have p1 : ∀ x, (X x).cell? ⟨gp, 1, none⟩ = some (.pointer (some ⟨gx, 0, none⟩)) := fun x => HD.out.pS (hX x) 1
  have a1 : ∀ x, (X x).cell? ⟨ga, 1, none⟩ = some (.int .i64 A.a) := fun x => HD.out.aS (hX x) 1
  have a2 : ∀ x, (X x).cell? ⟨ga, 2, none⟩ = some (.int .i64 A.b) := fun x => HD.out.aS (hX x) 2
  iterate 12 (refine still_step rfl (fun K hK => ?_); go_simp; refine hK _ ?_; clear hK K)
  refine still_nil ?_
  clear hX hne p0 p1 a1 a2
  refine turn_call rfl rfl (fun v w' => v = .int .i64 c ∧ Tf G wb w' gd gx (s.copied A.a A.b) x) (fun _ => But (fun b => ¬ G b) wb) (fun _ _ _ h k => ⟨h.1, h.2.then k⟩) (fun _ _ h => h.2.but) (.inr (fun _ _ h => h)) 41 #[.pointer (some ⟨gd, 0, none⟩), .int .i64 A.a, .int .i64 A.b] (fun _ => by kernel_rfl) ?_ ?_
  · intro w1 hw1
    have ht1 := HD.out.tf.then hw1
    refine Calls.mono (dcopy_all ht1 A.a A.b) ?_
    rintro e w2 ⟨rfl, h2⟩
    exact ⟨_, rfl, by rw [EQ.out], h2⟩
  rintro v ⟨wq, rfl, -⟩ Y hY
  clear wq
  go_simp
  refine hY _ ?_
  clear hY Y
  intro ι hne X hX
  refine still_nil ?_
  clear hX hne
  refine turn_call rfl rfl (fun v w' => v = .int .i64 c ∧ ∃ x', Tf G wb w' gd gx (s.copied A.a A.b) x' ∧ Agr (s.copied A.a A.b) x' ∧ x'.arm ≤ 9223372036854775807) (fun _ => But (fun b => ¬ G b) wb) (fun _ _ _ h k => ⟨h.1, h.2.imp (fun _ h => ⟨h.1.then k, h.2⟩)⟩) (fun _ _ ⟨_, _, h, _⟩ => h.but) (.inr (fun _ _ h => h)) 42 #[.pointer (some ⟨gx, 0, none⟩), .int .i64 A.a, .int .i64 A.b] (fun _ => by kernel_rfl) ?_ ?_
  · rintro w1 ⟨-, ht1⟩
    refine Calls.mono (rcopy_all ht1 HA.out HOK.out A.a A.b HB.out HLE.out) ?_
    rintro e w2 ⟨rfl, h2⟩
    exact ⟨_, rfl, by rw [EQ.out], h2⟩
  rintro v ⟨wq, rfl, -⟩ Y hY
  clear wq
  go_simp
  refine hY _ ?_
  clear hY Y
  intro ι hne X hX
  iterate 2 (refine still_step rfl (fun K hK => ?_); go_simp; refine hK _ ?_; clear hK K)
  refine still_nil ?_
  clear hX hne
  rintro w2 ⟨-, x', ht2, ha2, hx2⟩
  have HE := Hid.mk' (HFIN.out _ _ _ ht2 ha2 (keeps_copied HB.out hx2 A.a A.b))
  clear ht2 ha2 hx2
  go_wp2
  go_ret
  exact ⟨rfl, HE.out⟩
set_option maxRecDepth 100000 in
set_option maxHeartbeats 4000000 in
theorem do_10 {F : Nat → Prop} {w0 w : World} {gd gx n : Nat} {s0 : Dev} {A : DA} {ud uf : Value} (h : DoIn F w0 w gd gx s0 n A ud uf) (hk : A.kind % 11 = 10) :
    Calls Try.prog 11 #[.agg #[.pointer (some ⟨gd, 0, none⟩), .pointer (some ⟨gx, 0, none⟩)], .agg (dcells A ud uf).toArray] w (DoIs F w0 gd gx s0 (n + 1)) := by
  have HIN := Hid.mk' h
  obtain ⟨wa, hwa⟩ : ∃ wa, wa = w.alloc (.cells #[.pointer (some ⟨gd, 0, none⟩), .pointer (some ⟨gx, 0, none⟩)] 28) := ⟨_, rfl⟩
  obtain ⟨wb, hwb⟩ : ∃ wb, wb = wa.alloc (.cells (dcells A ud uf).toArray 35) := ⟨_, rfl⟩
  obtain ⟨gp, hgp⟩ : ∃ gp, gp = w.heap.size := ⟨_, rfl⟩
  obtain ⟨ga, hga⟩ : ∃ ga, ga = wa.heap.size := ⟨_, rfl⟩
  obtain ⟨s, x, ha, hb, -, hok, hd, hfin⟩ := h.box hwa hwb hgp hga
  generalize FB F w wb = G at hd hfin
  have HA := Hid.mk' ha
  have HB := Hid.mk' hb
  have HOK := Hid.mk' hok
  have HD := Hid.mk' hd
  have HFIN := Hid.mk' hfin
  have HWA := Hid.mk' hwa
  have HWB := Hid.mk' hwb
  have HGP := Hid.mk' hgp
  have HGA : Hid (ga = w.heap.size + 1) := by show _ = _; rw [hga, hwa]; simp
  have HLE : Hid (n ≤ 1000) := Nat.le_trans h.le (by decide)
  have HPK := Hid.mk' (pick11 A.kind wb)
  rw [hk] at HPK
  have a0 : wb.cell? ⟨ga, 0, none⟩ = some (.int .i64 A.kind) := hd.a 0
  have a1 : wb.cell? ⟨ga, 1, none⟩ = some (.int .i64 A.a) := hd.a 1
  have a2 : wb.cell? ⟨ga, 2, none⟩ = some (.int .i64 A.b) := hd.a 2
  have a3 : wb.cell? ⟨ga, 3, none⟩ = some ud := hd.a 3
  have a4 : wb.cell? ⟨ga, 4, none⟩ = some uf := hd.a 4
  have p0 : wb.cell? ⟨gp, 0, none⟩ = some (.pointer (some ⟨gd, 0, none⟩)) := hd.p 0
  have p1 : wb.cell? ⟨gp, 1, none⟩ = some (.pointer (some ⟨gx, 0, none⟩)) := hd.p 1
  unfold dcells at HWB ⊢
  clear h ha hb hok hd hfin hwa hwb hgp hga hk
  go_enter Try.func11, Try.ntmps11
  go_upto_region 1 with fail
  rw [← HWA.out, ← HWB.out, ← HGA.out, ← HGP.out]
  go_wp2_with fail
  refine Calls.mono HPK.out ?_
  rintro e w1 ⟨rfl, hw1⟩
  have h2 := hw1.symm
  subst h2
  clear hw1 HPK HIN HWA HWB HGA HGP
  obtain ⟨c, hc⟩ : ∃ c, c = s.bcode A.a := ⟨_, rfl⟩
  have EQ := Hid.mk' hc
  clear hc
  clear a0 a1 a2 a3 a4 p0 p1
  go_upto_region 2 with fail
  refine region_chain [([0, 1, 2, 3, 5, 6, 7, 8], 4), ([], 9)] [10, 11] (But (fun b => ¬ G b) wb) (Grow wb) (by kernel_rfl) (by kernel_rfl) (fun _ _ h k => h.trans k) (fun _ h => h.mono (fun _ _ h => h.elim)) ((But.refl _ wb).drew) ?_
  intro ι hne X hX
  have p0 : ∀ x, (X x).cell? ⟨gp, 0, none⟩ = some (.pointer (some ⟨gd, 0, none⟩)) := fun x => HD.out.pS (hX x) 0
  have p1 : ∀ x, (X x).cell? ⟨gp, 1, none⟩ = some (.pointer (some ⟨gx, 0, none⟩)) := fun x => HD.out.pS (hX x) 1
  have a1 : ∀ x, (X x).cell? ⟨ga, 1, none⟩ = some (.int .i64 A.a) := fun x => HD.out.aS (hX x) 1
  iterate 8 (refine still_step rfl (fun K hK => ?_); go_simp; refine hK _ ?_; clear hK K)
  refine still_nil ?_
  clear hX hne p0 p1 a1
  refine turn_call rfl rfl (fun v w' => v = .int .i64 c ∧ Tf G wb w' gd gx (s.backd A.a) x) (fun _ => But (fun b => ¬ G b) wb) (fun _ _ _ h k => ⟨h.1, h.2.then k⟩) (fun _ _ h => h.2.but) (.inr (fun _ _ h => h)) 24 #[.pointer (some ⟨gd, 0, none⟩), .int .i64 A.a] (fun _ => by kernel_rfl) ?_ ?_
  · intro w1 hw1
    have ht1 := HD.out.tf.then hw1
    refine Calls.mono (dback_all ht1 A.a) ?_
    rintro e w2 ⟨rfl, h2⟩
    exact ⟨_, rfl, by rw [EQ.out], h2⟩
  rintro v ⟨wq, rfl, -⟩ Y hY
  clear wq
  go_simp
  refine hY _ ?_
  clear hY Y
  intro ι hne X hX
  refine still_nil ?_
  clear hX hne
  refine turn_call rfl rfl (fun v w' => v = .int .i64 c ∧ ∃ x', Tf G wb w' gd gx (s.backd A.a) x' ∧ Agr (s.backd A.a) x' ∧ x'.arm ≤ 9223372036854775807) (fun _ => But (fun b => ¬ G b) wb) (fun _ _ _ h k => ⟨h.1, h.2.imp (fun _ h => ⟨h.1.then k, h.2⟩)⟩) (fun _ _ ⟨_, _, h, _⟩ => h.but) (.inr (fun _ _ h => h)) 44 #[.pointer (some ⟨gx, 0, none⟩), .int .i64 A.a] (fun _ => by kernel_rfl) ?_ ?_
  · rintro w1 ⟨-, ht1⟩
    refine Calls.mono (rback_all ht1 HA.out A.a HB.out) ?_
    rintro e w2 ⟨rfl, h2⟩
    exact ⟨_, rfl, by rw [EQ.out], h2⟩
  rintro v ⟨wq, rfl, -⟩ Y hY
  clear wq
  go_simp
  refine hY _ ?_
  clear hY Y
  intro ι hne X hX
  iterate 2 (refine still_step rfl (fun K hK => ?_); go_simp; refine hK _ ?_; clear hK K)
  refine still_nil ?_
  clear hX hne
  rintro w2 ⟨-, x', ht2, ha2, hx2⟩
  have HE := Hid.mk' (HFIN.out _ _ _ ht2 ha2 (keeps_backd HB.out HOK.out hx2 A.a))
  clear ht2 ha2 hx2
  go_wp2
  go_ret
  exact ⟨rfl, HE.out⟩
end Go.Proofs.Ytfgcbcopgikodaa
/- The law do: Arm, Crash, On, Snap. -/
namespace Go.Proofs.Ytfgcbcopgikodaa
open Go.RowKit

set_option maxRecDepth 100000 in
set_option maxHeartbeats 4000000 in
theorem do_4 {F : Nat → Prop} {w0 w : World} {gd gx n : Nat} {s0 : Dev} {A : DA} {ud uf : Value} (h : DoIn F w0 w gd gx s0 n A ud uf) (hk : A.kind % 11 = 4) :
    Calls Try.prog 11 #[.agg #[.pointer (some ⟨gd, 0, none⟩), .pointer (some ⟨gx, 0, none⟩)], .agg (dcells A ud uf).toArray] w (DoIs F w0 gd gx s0 (n + 1)) := by
  have HIN := Hid.mk' h
  have HRA := Hid.mk' h.ra.2
  obtain ⟨wa, hwa⟩ : ∃ wa, wa = w.alloc (.cells #[.pointer (some ⟨gd, 0, none⟩), .pointer (some ⟨gx, 0, none⟩)] 28) := ⟨_, rfl⟩
  obtain ⟨wb, hwb⟩ : ∃ wb, wb = wa.alloc (.cells (dcells A ud uf).toArray 35) := ⟨_, rfl⟩
  obtain ⟨gp, hgp⟩ : ∃ gp, gp = w.heap.size := ⟨_, rfl⟩
  obtain ⟨ga, hga⟩ : ∃ ga, ga = wa.heap.size := ⟨_, rfl⟩
  obtain ⟨s, x, ha, hb, -, hok, hd, hfin⟩ := h.box hwa hwb hgp hga
  generalize FB F w wb = G at hd hfin
  have HA := Hid.mk' ha
  have HB := Hid.mk' hb
  have HOK := Hid.mk' hok
  have HD := Hid.mk' hd
  have HFIN := Hid.mk' hfin
  have HWA := Hid.mk' hwa
  have HWB := Hid.mk' hwb
  have HGP := Hid.mk' hgp
  have HGA : Hid (ga = w.heap.size + 1) := by show _ = _; rw [hga, hwa]; simp
  have HLE : Hid (n ≤ 1000) := Nat.le_trans h.le (by decide)
  have HPK := Hid.mk' (pick11 A.kind wb)
  rw [hk] at HPK
  have a0 : wb.cell? ⟨ga, 0, none⟩ = some (.int .i64 A.kind) := hd.a 0
  have a1 : wb.cell? ⟨ga, 1, none⟩ = some (.int .i64 A.a) := hd.a 1
  have a2 : wb.cell? ⟨ga, 2, none⟩ = some (.int .i64 A.b) := hd.a 2
  have a3 : wb.cell? ⟨ga, 3, none⟩ = some ud := hd.a 3
  have a4 : wb.cell? ⟨ga, 4, none⟩ = some uf := hd.a 4
  have p0 : wb.cell? ⟨gp, 0, none⟩ = some (.pointer (some ⟨gd, 0, none⟩)) := hd.p 0
  have p1 : wb.cell? ⟨gp, 1, none⟩ = some (.pointer (some ⟨gx, 0, none⟩)) := hd.p 1
  unfold dcells at HWB ⊢
  clear h ha hb hok hd hfin hwa hwb hgp hga hk
  go_enter Try.func11, Try.ntmps11
  go_upto_region 1 with fail
  rw [← HWA.out, ← HWB.out, ← HGA.out, ← HGP.out]
  go_wp2_with fail
  refine Calls.mono HPK.out ?_
  rintro e w1 ⟨rfl, hw1⟩
  have h2 := hw1.symm
  subst h2
  clear hw1 HPK HIN HWA HWB HGA HGP
  go_wp2_with fail
  refine Calls.mono (darm_all HD.out.tf A.a) ?_
  rintro e w1 ⟨rfl, ht1⟩
  have HT1 := Hid.mk' ht1
  clear ht1 a0 a1 a2 a3 a4 p0 p1
  have a1 : w1.cell? ⟨ga, 1, none⟩ = some (.int .i64 A.a) := (HD.out.on HT1.out).a 1
  have a2 : w1.cell? ⟨ga, 2, none⟩ = some (.int .i64 A.b) := (HD.out.on HT1.out).a 2
  have a3 : w1.cell? ⟨ga, 3, none⟩ = some ud := (HD.out.on HT1.out).a 3
  have a4 : w1.cell? ⟨ga, 4, none⟩ = some uf := (HD.out.on HT1.out).a 4
  have p0 : w1.cell? ⟨gp, 0, none⟩ = some (.pointer (some ⟨gd, 0, none⟩)) := (HD.out.on HT1.out).p 0
  have p1 : w1.cell? ⟨gp, 1, none⟩ = some (.pointer (some ⟨gx, 0, none⟩)) := (HD.out.on HT1.out).p 1
  go_wp2_with fail
  refine Calls.mono (rarm_all HT1.out HA.out HB.out A.a HRA.out) ?_
  rintro e w2 ⟨rfl, x', ht2, ha2, hx2⟩
  have HE := Hid.mk' (HFIN.out _ _ _ ht2 ha2 (keeps_arm HB.out hx2 A.a HRA.out))
  clear ht2 ha2 hx2 a1 a2 a3 a4 p0 p1
  go_wp2
  go_ret
  exact ⟨rfl, HE.out⟩
set_option maxRecDepth 100000 in
set_option maxHeartbeats 4000000 in
theorem do_5 {F : Nat → Prop} {w0 w : World} {gd gx n : Nat} {s0 : Dev} {A : DA} {ud uf : Value} (h : DoIn F w0 w gd gx s0 n A ud uf) (hk : A.kind % 11 = 5) :
    Calls Try.prog 11 #[.agg #[.pointer (some ⟨gd, 0, none⟩), .pointer (some ⟨gx, 0, none⟩)], .agg (dcells A ud uf).toArray] w (DoIs F w0 gd gx s0 (n + 1)) := by
  have HIN := Hid.mk' h
  obtain ⟨wa, hwa⟩ : ∃ wa, wa = w.alloc (.cells #[.pointer (some ⟨gd, 0, none⟩), .pointer (some ⟨gx, 0, none⟩)] 28) := ⟨_, rfl⟩
  obtain ⟨wb, hwb⟩ : ∃ wb, wb = wa.alloc (.cells (dcells A ud uf).toArray 35) := ⟨_, rfl⟩
  obtain ⟨gp, hgp⟩ : ∃ gp, gp = w.heap.size := ⟨_, rfl⟩
  obtain ⟨ga, hga⟩ : ∃ ga, ga = wa.heap.size := ⟨_, rfl⟩
  obtain ⟨s, x, ha, hb, -, hok, hd, hfin⟩ := h.box hwa hwb hgp hga
  generalize FB F w wb = G at hd hfin
  have HA := Hid.mk' ha
  have HB := Hid.mk' hb
  have HOK := Hid.mk' hok
  have HD := Hid.mk' hd
  have HFIN := Hid.mk' hfin
  have HWA := Hid.mk' hwa
  have HWB := Hid.mk' hwb
  have HGP := Hid.mk' hgp
  have HGA : Hid (ga = w.heap.size + 1) := by show _ = _; rw [hga, hwa]; simp
  have HLE : Hid (n ≤ 1000) := Nat.le_trans h.le (by decide)
  have HPK := Hid.mk' (pick11 A.kind wb)
  rw [hk] at HPK
  have a0 : wb.cell? ⟨ga, 0, none⟩ = some (.int .i64 A.kind) := hd.a 0
  have a1 : wb.cell? ⟨ga, 1, none⟩ = some (.int .i64 A.a) := hd.a 1
  have a2 : wb.cell? ⟨ga, 2, none⟩ = some (.int .i64 A.b) := hd.a 2
  have a3 : wb.cell? ⟨ga, 3, none⟩ = some ud := hd.a 3
  have a4 : wb.cell? ⟨ga, 4, none⟩ = some uf := hd.a 4
  have p0 : wb.cell? ⟨gp, 0, none⟩ = some (.pointer (some ⟨gd, 0, none⟩)) := hd.p 0
  have p1 : wb.cell? ⟨gp, 1, none⟩ = some (.pointer (some ⟨gx, 0, none⟩)) := hd.p 1
  unfold dcells at HWB ⊢
  clear h ha hb hok hd hfin hwa hwb hgp hga hk
  go_enter Try.func11, Try.ntmps11
  go_upto_region 1 with fail
  rw [← HWA.out, ← HWB.out, ← HGA.out, ← HGP.out]
  go_wp2_with fail
  refine Calls.mono HPK.out ?_
  rintro e w1 ⟨rfl, hw1⟩
  have h2 := hw1.symm
  subst h2
  clear hw1 HPK HIN HWA HWB HGA HGP
  go_wp2_with fail
  refine Calls.mono (dcrash_all HD.out.tf) ?_
  rintro e w1 ⟨rfl, ht1⟩
  have HT1 := Hid.mk' ht1
  clear ht1 a0 a1 a2 a3 a4 p0 p1
  have a1 : w1.cell? ⟨ga, 1, none⟩ = some (.int .i64 A.a) := (HD.out.on HT1.out).a 1
  have a2 : w1.cell? ⟨ga, 2, none⟩ = some (.int .i64 A.b) := (HD.out.on HT1.out).a 2
  have a3 : w1.cell? ⟨ga, 3, none⟩ = some ud := (HD.out.on HT1.out).a 3
  have a4 : w1.cell? ⟨ga, 4, none⟩ = some uf := (HD.out.on HT1.out).a 4
  have p0 : w1.cell? ⟨gp, 0, none⟩ = some (.pointer (some ⟨gd, 0, none⟩)) := (HD.out.on HT1.out).p 0
  have p1 : w1.cell? ⟨gp, 1, none⟩ = some (.pointer (some ⟨gx, 0, none⟩)) := (HD.out.on HT1.out).p 1
  go_wp2_with fail
  refine Calls.mono (rcrash_all HT1.out HA.out) ?_
  rintro e w2 ⟨rfl, x', ht2, ha2, hx2⟩
  have HE := Hid.mk' (HFIN.out _ _ _ ht2 ha2 (keeps_crash HB.out hx2))
  clear ht2 ha2 hx2 a1 a2 a3 a4 p0 p1
  go_wp2
  go_ret
  exact ⟨rfl, HE.out⟩
set_option maxRecDepth 100000 in
set_option maxHeartbeats 4000000 in
theorem do_6 {F : Nat → Prop} {w0 w : World} {gd gx n : Nat} {s0 : Dev} {A : DA} {ud uf : Value} (h : DoIn F w0 w gd gx s0 n A ud uf) (hk : A.kind % 11 = 6) :
    Calls Try.prog 11 #[.agg #[.pointer (some ⟨gd, 0, none⟩), .pointer (some ⟨gx, 0, none⟩)], .agg (dcells A ud uf).toArray] w (DoIs F w0 gd gx s0 (n + 1)) := by
  have HIN := Hid.mk' h
  obtain ⟨wa, hwa⟩ : ∃ wa, wa = w.alloc (.cells #[.pointer (some ⟨gd, 0, none⟩), .pointer (some ⟨gx, 0, none⟩)] 28) := ⟨_, rfl⟩
  obtain ⟨wb, hwb⟩ : ∃ wb, wb = wa.alloc (.cells (dcells A ud uf).toArray 35) := ⟨_, rfl⟩
  obtain ⟨gp, hgp⟩ : ∃ gp, gp = w.heap.size := ⟨_, rfl⟩
  obtain ⟨ga, hga⟩ : ∃ ga, ga = wa.heap.size := ⟨_, rfl⟩
  obtain ⟨s, x, ha, hb, -, hok, hd, hfin⟩ := h.box hwa hwb hgp hga
  generalize FB F w wb = G at hd hfin
  have HA := Hid.mk' ha
  have HB := Hid.mk' hb
  have HOK := Hid.mk' hok
  have HD := Hid.mk' hd
  have HFIN := Hid.mk' hfin
  have HWA := Hid.mk' hwa
  have HWB := Hid.mk' hwb
  have HGP := Hid.mk' hgp
  have HGA : Hid (ga = w.heap.size + 1) := by show _ = _; rw [hga, hwa]; simp
  have HLE : Hid (n ≤ 1000) := Nat.le_trans h.le (by decide)
  have HPK := Hid.mk' (pick11 A.kind wb)
  rw [hk] at HPK
  have a0 : wb.cell? ⟨ga, 0, none⟩ = some (.int .i64 A.kind) := hd.a 0
  have a1 : wb.cell? ⟨ga, 1, none⟩ = some (.int .i64 A.a) := hd.a 1
  have a2 : wb.cell? ⟨ga, 2, none⟩ = some (.int .i64 A.b) := hd.a 2
  have a3 : wb.cell? ⟨ga, 3, none⟩ = some ud := hd.a 3
  have a4 : wb.cell? ⟨ga, 4, none⟩ = some uf := hd.a 4
  have p0 : wb.cell? ⟨gp, 0, none⟩ = some (.pointer (some ⟨gd, 0, none⟩)) := hd.p 0
  have p1 : wb.cell? ⟨gp, 1, none⟩ = some (.pointer (some ⟨gx, 0, none⟩)) := hd.p 1
  unfold dcells at HWB ⊢
  clear h ha hb hok hd hfin hwa hwb hgp hga hk
  go_enter Try.func11, Try.ntmps11
  go_upto_region 1 with fail
  rw [← HWA.out, ← HWB.out, ← HGA.out, ← HGP.out]
  go_wp2_with fail
  refine Calls.mono HPK.out ?_
  rintro e w1 ⟨rfl, hw1⟩
  have h2 := hw1.symm
  subst h2
  clear hw1 HPK HIN HWA HWB HGA HGP
  go_wp2_with fail
  refine Calls.mono (don_all HD.out.tf HD.out.fat HB.out HLE.out) ?_
  rintro e w1 ⟨rfl, ht1⟩
  have HT1 := Hid.mk' ht1
  clear ht1 a0 a1 a2 a3 a4 p0 p1
  have a1 : w1.cell? ⟨ga, 1, none⟩ = some (.int .i64 A.a) := (HD.out.on HT1.out).a 1
  have a2 : w1.cell? ⟨ga, 2, none⟩ = some (.int .i64 A.b) := (HD.out.on HT1.out).a 2
  have a3 : w1.cell? ⟨ga, 3, none⟩ = some ud := (HD.out.on HT1.out).a 3
  have a4 : w1.cell? ⟨ga, 4, none⟩ = some uf := (HD.out.on HT1.out).a 4
  have p0 : w1.cell? ⟨gp, 0, none⟩ = some (.pointer (some ⟨gd, 0, none⟩)) := (HD.out.on HT1.out).p 0
  have p1 : w1.cell? ⟨gp, 1, none⟩ = some (.pointer (some ⟨gx, 0, none⟩)) := (HD.out.on HT1.out).p 1
  go_wp2_with fail
  refine Calls.mono (ron_all HT1.out HA.out HOK.out (HD.out.on HT1.out).fat HB.out HLE.out) ?_
  rintro e w2 ⟨rfl, x', ht2, ha2, hx2⟩
  have HE := Hid.mk' (HFIN.out _ _ _ ht2 ha2 (keeps_ond HB.out hx2 A.fat))
  clear ht2 ha2 hx2 a1 a2 a3 a4 p0 p1
  go_wp2
  go_ret
  exact ⟨rfl, HE.out⟩
set_option maxRecDepth 100000 in
set_option maxHeartbeats 4000000 in
theorem do_9 {F : Nat → Prop} {w0 w : World} {gd gx n : Nat} {s0 : Dev} {A : DA} {ud uf : Value} (h : DoIn F w0 w gd gx s0 n A ud uf) (hk : A.kind % 11 = 9) :
    Calls Try.prog 11 #[.agg #[.pointer (some ⟨gd, 0, none⟩), .pointer (some ⟨gx, 0, none⟩)], .agg (dcells A ud uf).toArray] w (DoIs F w0 gd gx s0 (n + 1)) := by
  have HIN := Hid.mk' h
  obtain ⟨wa, hwa⟩ : ∃ wa, wa = w.alloc (.cells #[.pointer (some ⟨gd, 0, none⟩), .pointer (some ⟨gx, 0, none⟩)] 28) := ⟨_, rfl⟩
  obtain ⟨wb, hwb⟩ : ∃ wb, wb = wa.alloc (.cells (dcells A ud uf).toArray 35) := ⟨_, rfl⟩
  obtain ⟨gp, hgp⟩ : ∃ gp, gp = w.heap.size := ⟨_, rfl⟩
  obtain ⟨ga, hga⟩ : ∃ ga, ga = wa.heap.size := ⟨_, rfl⟩
  obtain ⟨s, x, ha, hb, -, hok, hd, hfin⟩ := h.box hwa hwb hgp hga
  generalize FB F w wb = G at hd hfin
  have HA := Hid.mk' ha
  have HB := Hid.mk' hb
  have HOK := Hid.mk' hok
  have HD := Hid.mk' hd
  have HFIN := Hid.mk' hfin
  have HWA := Hid.mk' hwa
  have HWB := Hid.mk' hwb
  have HGP := Hid.mk' hgp
  have HGA : Hid (ga = w.heap.size + 1) := by show _ = _; rw [hga, hwa]; simp
  have HLE : Hid (n ≤ 1000) := Nat.le_trans h.le (by decide)
  have HPK := Hid.mk' (pick11 A.kind wb)
  rw [hk] at HPK
  have a0 : wb.cell? ⟨ga, 0, none⟩ = some (.int .i64 A.kind) := hd.a 0
  have a1 : wb.cell? ⟨ga, 1, none⟩ = some (.int .i64 A.a) := hd.a 1
  have a2 : wb.cell? ⟨ga, 2, none⟩ = some (.int .i64 A.b) := hd.a 2
  have a3 : wb.cell? ⟨ga, 3, none⟩ = some ud := hd.a 3
  have a4 : wb.cell? ⟨ga, 4, none⟩ = some uf := hd.a 4
  have p0 : wb.cell? ⟨gp, 0, none⟩ = some (.pointer (some ⟨gd, 0, none⟩)) := hd.p 0
  have p1 : wb.cell? ⟨gp, 1, none⟩ = some (.pointer (some ⟨gx, 0, none⟩)) := hd.p 1
  unfold dcells at HWB ⊢
  clear h ha hb hok hd hfin hwa hwb hgp hga hk
  go_enter Try.func11, Try.ntmps11
  go_upto_region 1 with fail
  rw [← HWA.out, ← HWB.out, ← HGA.out, ← HGP.out]
  go_wp2_with fail
  refine Calls.mono HPK.out ?_
  rintro e w1 ⟨rfl, hw1⟩
  have h2 := hw1.symm
  subst h2
  clear hw1 HPK HIN HWA HWB HGA HGP
  obtain ⟨m, hm⟩ : ∃ m, m = s.nnum := ⟨_, rfl⟩
  obtain ⟨c, hc⟩ : ∃ c, c = s.ncode := ⟨_, rfl⟩
  have HDS := Hid.mk' (dsnap_all HD.out.tf HB.out)
  have HRS : Hid (∀ w1, Tf G wb w1 gd gx s.snapd x → _) := fun w1 (h1 : Tf G wb w1 gd gx s.snapd x) => rsnap_all h1 HA.out HOK.out HB.out HLE.out
  rw [← hm, ← hc] at HDS HRS
  clear hm hc
  go_wp2_with fail
  refine Calls.mono HDS.out ?_
  rintro e w1 ⟨rfl, ht1⟩
  have HT1 := Hid.mk' ht1
  have HR1 := Hid.mk' (HRS.out w1 ht1)
  clear ht1 a0 a1 a2 a3 a4 p0 p1 HDS HRS
  have a1 : w1.cell? ⟨ga, 1, none⟩ = some (.int .i64 A.a) := (HD.out.on HT1.out).a 1
  have a2 : w1.cell? ⟨ga, 2, none⟩ = some (.int .i64 A.b) := (HD.out.on HT1.out).a 2
  have a3 : w1.cell? ⟨ga, 3, none⟩ = some ud := (HD.out.on HT1.out).a 3
  have a4 : w1.cell? ⟨ga, 4, none⟩ = some uf := (HD.out.on HT1.out).a 4
  have p0 : w1.cell? ⟨gp, 0, none⟩ = some (.pointer (some ⟨gd, 0, none⟩)) := (HD.out.on HT1.out).p 0
  have p1 : w1.cell? ⟨gp, 1, none⟩ = some (.pointer (some ⟨gx, 0, none⟩)) := (HD.out.on HT1.out).p 1
  go_wp2_with fail
  refine Calls.mono HR1.out ?_
  rintro e w2 ⟨rfl, x', ht2, ha2, hx2⟩
  have HE := Hid.mk' (HFIN.out _ _ _ ht2 ha2 (keeps_snapd HB.out hx2))
  clear ht2 ha2 hx2 a1 a2 a3 a4 p0 p1
  go_wp2
  go_ret
  exact ⟨rfl, HE.out⟩
end Go.Proofs.Ytfgcbcopgikodaa
/- The law do: Read. -/
namespace Go.Proofs.Ytfgcbcopgikodaa
open Go.RowKit

/-- Bytes that are written into one by one. -/
structure Wri (w0 w : World) (base : Nat) (ao : Option Addr) (m : Nat) : Prop where
  but : But (fun b => 0 < m ∧ ao = some ⟨b, 0, none⟩) w0 w
  ex : 0 < m → ∃ g T R zs, ao = some ⟨g, 0, none⟩ ∧ base ≤ g ∧ zs.length = m ∧ (∀ z ∈ zs, z < 256) ∧ Blk w g T (u8s zs ++ R)
theorem Nw.wri {w : World} {base : Nat} {v : Value} {zs : List Nat} (h : Nw w base v zs) : ∃ ao cap, v = .slice ao zs.length cap ∧ Wri w w base ao zs.length := by
  rcases h.ex with rfl | ⟨g, cap, T, R, rfl, hg, hb⟩
  · obtain ⟨ao, cap, e, -⟩ := h.bs.gen
    exact ⟨ao, cap, e, But.refl _ _, fun h0 => absurd h0 (by simp)⟩
  · exact ⟨_, cap, rfl, But.refl _ _, fun _ => ⟨g, T, R, zs, rfl, hg, rfl, h.bs.1, hb⟩⟩
theorem Ow.nw {w : World} {base : Nat} {v : Value} {zs : List Nat} (h : Ow w base v zs) : Nw w base v zs := by
  refine ⟨h.bs, ?_⟩
  by_cases h0 : 0 < zs.length
  · obtain ⟨g, cap, R, e, hg, hb, -⟩ := h.opn h0
    exact .inr ⟨g, cap, _, R, e, hg, hb⟩
  · exact .inl (List.eq_nil_of_length_eq_zero (by omega))
theorem Wri.next {w0 w : World} {base m k : Nat} {ao : Option Addr} (h : Wri w0 w base ao m) (hk : k < m) : ∃ (g z : Nat), ao = some ⟨g, 0, none⟩ ∧ z < 256 ∧ w.cell? ⟨g, k, none⟩ = some (.int .u8 (z : Int)) ∧ w.frozen? ⟨g, k, none⟩ = false ∧
    ∀ y : Nat, y < 256 → Wri w0 (w.setCell ⟨g, k, none⟩ (.int .u8 (y : Int))) base ao m := by
  obtain ⟨g, T, R, zs, e, hg, hl, hz, hb⟩ := h.ex (by omega)
  have hk' : k < (u8s zs).length := by rw [u8s_len, hl]; exact hk
  refine ⟨g, zs.getD k 0, e, hz _ (getD_mem zs k (by omega)), ?_, hb.free k, fun y hy => ⟨?_, fun _ => ⟨g, T, R, zs.set k y, e, hg, by rw [List.length_set]; exact hl, ?_, ?_⟩⟩⟩
  · rw [hb.cell, List.getElem?_append_left hk', u8s_get zs k (by omega)]
  · exact h.but.trans ((But.set1 w g k _).mono (fun b _ hb => ⟨by omega, by rw [e, hb]⟩))
  · intro z h4
    rcases List.mem_or_eq_of_mem_set h4 with h5 | h5
    · exact hz z h5
    · rw [h5]; exact hy
  · have h2 := hb.set k (.int .u8 (y : Int))
    rw [List.set_append_left _ _ hk', u8s_set] at h2
    exact h2
theorem Do1.add {F : Nat → Prop} {wb w w' : World} {gp ga gd gx : Nat} {A : DA} {ud uf : Value} {s : Dev} {x : Rdv} (h : Do1 F wb w gp ga gd gx A ud uf s x) (k : Grow w w') : Do1 (fun b => F b ∨ (w.heap.size ≤ b ∧ b < w'.heap.size)) w' w' gp ga gd gx A ud uf s x := by
  have h1 := h.dat.but k (fun _ _ h => h)
  have h2 := h.fat.but k (fun _ _ h => h)
  exact ⟨h.tf.add k, (h.tf.blk h.bp h.fp).but k (fun h => h), (h.tf.blk h.ba h.fa).but k (fun h => h), .inl h.fp, .inl h.fa, ⟨h1.1, fun h0 j hj => .inl (h1.2 h0 j hj)⟩, ⟨h2.1, fun h0 j hj => .inl (h2.2 h0 j hj)⟩⟩
theorem rbytes_len {s : Dev} (h : s.ok) (y : Int) : (s.rbytes y).length ≤ 256 := by
  unfold Dev.rbytes
  split
  · split
    · rename_i hy
      obtain ⟨b, rfl, hb⟩ := hasB_nat hy
      exact Nat.le_of_eq (h.now hb).1
    · exact Nat.zero_le _
  · exact Nat.zero_le _
set_option maxRecDepth 100000 in
set_option maxHeartbeats 4000000 in
theorem do_0 {F : Nat → Prop} {w0 w : World} {gd gx n : Nat} {s0 : Dev} {A : DA} {ud uf : Value} (h : DoIn F w0 w gd gx s0 n A ud uf) (hk : A.kind % 11 = 0) :
    Calls Try.prog 11 #[.agg #[.pointer (some ⟨gd, 0, none⟩), .pointer (some ⟨gx, 0, none⟩)], .agg (dcells A ud uf).toArray] w (DoIs F w0 gd gx s0 (n + 1)) := by
  have HIN := Hid.mk' h
  obtain ⟨wa, hwa⟩ : ∃ wa, wa = w.alloc (.cells #[.pointer (some ⟨gd, 0, none⟩), .pointer (some ⟨gx, 0, none⟩)] 28) := ⟨_, rfl⟩
  obtain ⟨wb, hwb⟩ : ∃ wb, wb = wa.alloc (.cells (dcells A ud uf).toArray 35) := ⟨_, rfl⟩
  obtain ⟨gp, hgp⟩ : ∃ gp, gp = w.heap.size := ⟨_, rfl⟩
  obtain ⟨ga, hga⟩ : ∃ ga, ga = wa.heap.size := ⟨_, rfl⟩
  obtain ⟨s, x, ha, hb, -, hok, hd, hfin⟩ := h.box hwa hwb hgp hga
  generalize FB F w wb = G at hd hfin
  have HA := Hid.mk' ha
  have HB := Hid.mk' hb
  have HOK := Hid.mk' hok
  have HD := Hid.mk' hd
  have HFIN := Hid.mk' hfin
  have HWA := Hid.mk' hwa
  have HWB := Hid.mk' hwb
  have HGP := Hid.mk' hgp
  have HGA : Hid (ga = w.heap.size + 1) := by show _ = _; rw [hga, hwa]; simp
  have HLE : Hid (n ≤ 1000) := Nat.le_trans h.le (by decide)
  have HPK := Hid.mk' (pick11 A.kind wb)
  rw [hk] at HPK
  have a0 : wb.cell? ⟨ga, 0, none⟩ = some (.int .i64 A.kind) := hd.a 0
  have a1 : wb.cell? ⟨ga, 1, none⟩ = some (.int .i64 A.a) := hd.a 1
  have a2 : wb.cell? ⟨ga, 2, none⟩ = some (.int .i64 A.b) := hd.a 2
  have a3 : wb.cell? ⟨ga, 3, none⟩ = some ud := hd.a 3
  have a4 : wb.cell? ⟨ga, 4, none⟩ = some uf := hd.a 4
  have p0 : wb.cell? ⟨gp, 0, none⟩ = some (.pointer (some ⟨gd, 0, none⟩)) := hd.p 0
  have p1 : wb.cell? ⟨gp, 1, none⟩ = some (.pointer (some ⟨gx, 0, none⟩)) := hd.p 1
  unfold dcells at HWB ⊢
  clear h ha hb hok hd hfin hwa hwb hgp hga hk
  go_enter Try.func11, Try.ntmps11
  go_upto_region 1 with fail
  rw [← HWA.out, ← HWB.out, ← HGA.out, ← HGP.out]
  go_wp2_with fail
  refine Calls.mono HPK.out ?_
  rintro e w1 ⟨rfl, hw1⟩
  have h2 := hw1.symm
  subst h2
  clear hw1 HPK HIN HWA HWB HGA HGP
  obtain ⟨c, hc⟩ : ∃ c, c = s.rcode A.a := ⟨_, rfl⟩
  obtain ⟨zs, hz⟩ : ∃ zs, zs = s.rbytes A.a := ⟨_, rfl⟩
  obtain ⟨m, hm⟩ : ∃ m, m = zs.length := ⟨_, rfl⟩
  have hmb : (m : Int) ≤ 256 := by
    have := rbytes_len HOK.out A.a
    rw [← hz, ← hm] at this
    omega
  have HRD := Hid.mk' (dread_all HD.out.tf A.a)
  have HRR : Hid (∀ w1, Tf G wb w1 gd gx s x → _) := fun w1 (h1 : Tf G wb w1 gd gx s x) => rread_all h1 HA.out HOK.out HB.out HLE.out A.a
  rw [← hc, ← hz] at HRD HRR
  have HM := Hid.mk' hm
  clear hc hz hm
  go_wp2_with fail
  refine Calls.mono HRD.out ?_
  rintro e w1 ⟨v, rfl, hnw, hg1⟩
  have HT1 := Hid.mk' (HD.out.tf.then hg1)
  have HR1 := Hid.mk' (HRR.out w1 HT1.out)
  obtain ⟨ao, cap, hv, hwr⟩ := hnw.wri
  rw [← HM.out] at hv hwr
  subst hv
  have HV1 := Hid.mk' hnw.bs
  have HW1 := Hid.mk' hwr
  have HG1 := Hid.mk' hg1
  clear a0 a1 a2 a3 a4 p0 p1 hnw hg1 hwr HRD HRR
  have a1 : w1.cell? ⟨ga, 1, none⟩ = some (.int .i64 A.a) := (HD.out.on HT1.out).a 1
  have a2 : w1.cell? ⟨ga, 2, none⟩ = some (.int .i64 A.b) := (HD.out.on HT1.out).a 2
  have a3 : w1.cell? ⟨ga, 3, none⟩ = some ud := (HD.out.on HT1.out).a 3
  have a4 : w1.cell? ⟨ga, 4, none⟩ = some uf := (HD.out.on HT1.out).a 4
  have p0 : w1.cell? ⟨gp, 0, none⟩ = some (.pointer (some ⟨gd, 0, none⟩)) := (HD.out.on HT1.out).p 0
  have p1 : w1.cell? ⟨gp, 1, none⟩ = some (.pointer (some ⟨gx, 0, none⟩)) := (HD.out.on HT1.out).p 1
  go_wp2_with fail
  refine Calls.mono HR1.out ?_
  rintro e w2 ⟨u, rfl, hu, hg2⟩
  have HSA := Hid.mk' (same_any (HV1.out.but hg2 (fun _ _ _ h => h)) hu)
  rw [decide_eq_true rfl] at HSA
  have HG2 := Hid.mk' hg2
  clear a1 a2 a3 a4 p0 p1 hu hg2 HR1 HV1
  go_wp2_with fail
  refine Calls.mono HSA.out ?_
  rintro e w3 ⟨rfl, hd3⟩
  have hg3 : Grow w2 w3 := by obtain ⟨d, rfl⟩ := hd3; exact (But.refl _ w2).drewN
  have HG3 : Hid (Grow w1 w3) := HG2.out.trans hg3
  have HW3 : Hid (Wri w3 w3 wb.heap.size ao m) := ⟨But.refl _ _, fun h0 => by
    obtain ⟨g, T, R, zs', e1, e2, e3, e4, e5⟩ := HW1.out.ex h0
    exact ⟨g, T, R, zs', e1, e2, e3, e4, e5.but HG3.out (fun h => h)⟩⟩
  clear hd3 hg3 HSA HW1
  go_wp2
  go_loopw [10] (fun iv wr => ∃ k : Nat, k ≤ m ∧ iv = .int .i64 (k : Int) ∧ Wri w3 wr wb.heap.size ao m) (fun iv _ => m - (intOf iv).toNat)
  case atStart => exact ⟨0, Nat.zero_le _, rfl, HW3.out⟩
  case round =>
    obtain ⟨k, hkm, rfl, hwri⟩ := hrel
    by_cases hlt : k < m
    · have hlt' : (k : Int) < (m : Int) := by omega
      obtain ⟨g, z, rfl, hz, cz, fz, hset⟩ := hwri.next hlt
      have hw1 : IntKind.u8.wrap ((z : Int) + 1) = (((z + 1) % 256 : Nat) : Int) := u8_next z hz
      obtain ⟨y, hy⟩ : ∃ y, y = (z + 1) % 256 := ⟨_, rfl⟩
      rw [← hy] at hw1
      have HS := Hid.mk' (hset y (by omega))
      clear hset hz hy hwri
      go_wp2
      exact ⟨⟨k + 1, by omega, by go_num, HS.out⟩, by simp [intOf]; omega⟩
    · have hlt' : ¬ ((k : Int) < (m : Int)) := by omega
      have HWR := Hid.mk' hwri
      clear hwri
      have hgr : Grow wb wr := (HG1.out.trans HG3.out).then HWR.out.but (fun b hb e => by
        obtain ⟨g, T, R, zs', e1, e2, -⟩ := HWR.out.ex e.1
        rw [e.2] at e1
        simp only [Option.some.injEq, Addr.mk.injEq, and_true] at e1
        omega)
      have HE := Hid.mk' (HFIN.out _ _ _ (HD.out.tf.then hgr) HA.out ⟨HB.out.up, Kp.refl _⟩)
      clear hgr
      go_wp2
      go_ret
      exact ⟨rfl, HE.out⟩
end Go.Proofs.Ytfgcbcopgikodaa
/- The law do: Write. -/
namespace Go.Proofs.Ytfgcbcopgikodaa
open Go.RowKit

set_option maxRecDepth 100000 in
set_option maxHeartbeats 4000000 in
theorem do_1a {F : Nat → Prop} {w0 w : World} {gd gx n : Nat} {s0 : Dev} {A : DA} {ud uf : Value} (h : DoIn F w0 w gd gx s0 n A ud uf) (hk : A.kind % 11 = 1) (h7 : A.b = 7) :
    Calls Try.prog 11 #[.agg #[.pointer (some ⟨gd, 0, none⟩), .pointer (some ⟨gx, 0, none⟩)], .agg (dcells A ud uf).toArray] w (DoIs F w0 gd gx s0 (n + 1)) := by
  have HIN := Hid.mk' h
  have HSM := Hid.mk' h.sm
  have H7 := Hid.mk' h7
  clear h7
  obtain ⟨wa, hwa⟩ : ∃ wa, wa = w.alloc (.cells #[.pointer (some ⟨gd, 0, none⟩), .pointer (some ⟨gx, 0, none⟩)] 28) := ⟨_, rfl⟩
  obtain ⟨wb, hwb⟩ : ∃ wb, wb = wa.alloc (.cells (dcells A ud uf).toArray 35) := ⟨_, rfl⟩
  obtain ⟨gp, hgp⟩ : ∃ gp, gp = w.heap.size := ⟨_, rfl⟩
  obtain ⟨ga, hga⟩ : ∃ ga, ga = wa.heap.size := ⟨_, rfl⟩
  obtain ⟨s, x, ha, hb, -, hok, hd, hfin⟩ := h.box hwa hwb hgp hga
  generalize FB F w wb = G at hd hfin
  have HA := Hid.mk' ha
  have HB := Hid.mk' hb
  have HOK := Hid.mk' hok
  have HD := Hid.mk' hd
  have HFIN := Hid.mk' hfin
  have HWA := Hid.mk' hwa
  have HWB := Hid.mk' hwb
  have HGP := Hid.mk' hgp
  have HGA : Hid (ga = w.heap.size + 1) := by show _ = _; rw [hga, hwa]; simp
  have HLE : Hid (n ≤ 1000) := Nat.le_trans h.le (by decide)
  have HPK := Hid.mk' (pick11 A.kind wb)
  rw [hk] at HPK
  have a0 : wb.cell? ⟨ga, 0, none⟩ = some (.int .i64 A.kind) := hd.a 0
  have a1 : wb.cell? ⟨ga, 1, none⟩ = some (.int .i64 A.a) := hd.a 1
  have a2 : wb.cell? ⟨ga, 2, none⟩ = some (.int .i64 7) := by rw [← H7.out]; exact hd.a 2
  have a3 : wb.cell? ⟨ga, 3, none⟩ = some ud := hd.a 3
  have a4 : wb.cell? ⟨ga, 4, none⟩ = some uf := hd.a 4
  have p0 : wb.cell? ⟨gp, 0, none⟩ = some (.pointer (some ⟨gd, 0, none⟩)) := hd.p 0
  have p1 : wb.cell? ⟨gp, 1, none⟩ = some (.pointer (some ⟨gx, 0, none⟩)) := hd.p 1
  unfold dcells at HWB ⊢
  clear h ha hb hok hd hfin hwa hwb hgp hga hk
  go_enter Try.func11, Try.ntmps11
  go_upto_region 1 with fail
  rw [← HWA.out, ← HWB.out, ← HGA.out, ← HGP.out]
  go_wp2_with fail
  refine Calls.mono HPK.out ?_
  rintro e w1 ⟨rfl, hw1⟩
  have h2 := hw1.symm
  subst h2
  clear hw1 HPK HIN HWA HWB HGA HGP
  obtain ⟨xs, hxs⟩ : ∃ xs, xs = A.dat := ⟨_, rfl⟩
  have HXS := Hid.mk' hxs
  obtain ⟨m, hm⟩ : ∃ m, m = xs.length := ⟨_, rfl⟩
  have HM := Hid.mk' hm
  have hmn : m ≤ 1000 := by
    have := HSM.out.1
    rw [hm, hxs]
    omega
  have HMN := Hid.mk' hmn
  have hmb : (m : Int) ≤ 1000 := by omega
  obtain ⟨c, hc⟩ : ∃ c, c = s.wcode A.a xs := ⟨_, rfl⟩
  have HC := Hid.mk' hc
  have HFU := Hid.mk' (full_any HD.out.dat.1)
  clear hc hxs hm hmn
  go_wp2_with fail
  refine Calls.mono HFU.out ?_
  rintro e w1 ⟨⟨gf, rfl, hgf, hof⟩, hg1⟩
  have HT1 := Hid.mk' (HD.out.tf.then hg1)
  have HG1 := Hid.mk' hg1
  clear a0 a1 a2 a3 a4 p0 p1 hgf hof hg1 HFU
  have a1 : w1.cell? ⟨ga, 1, none⟩ = some (.int .i64 A.a) := (HD.out.on HT1.out).a 1
  have a2 : w1.cell? ⟨ga, 2, none⟩ = some (.int .i64 7) := by rw [← H7.out]; exact (HD.out.on HT1.out).a 2
  have a3 : w1.cell? ⟨ga, 3, none⟩ = some ud := (HD.out.on HT1.out).a 3
  have a4 : w1.cell? ⟨ga, 4, none⟩ = some uf := (HD.out.on HT1.out).a 4
  have p0 : w1.cell? ⟨gp, 0, none⟩ = some (.pointer (some ⟨gd, 0, none⟩)) := (HD.out.on HT1.out).p 0
  have p1 : w1.cell? ⟨gp, 1, none⟩ = some (.pointer (some ⟨gx, 0, none⟩)) := (HD.out.on HT1.out).p 1
  have HC1 := Hid.mk' (copy_any (HD.out.on HT1.out).dat.1 (by have := HSM.out.1; omega))
  rw [← HXS.out] at HC1
  go_wp2_with fail
  refine Calls.mono HC1.out ?_
  rintro e w2 h12
  obtain ⟨vb, rfl, hob, hbl⟩ := h12
  have hg12 : Grow w1 w2 := But.of hbl
  clear hbl
  have HG2 : Hid (Grow wb w2) := HG1.out.trans hg12
  have HOB : Hid (Ow w2 wb.heap.size vb xs) := hob.mono HG1.out.size
  clear a1 a2 a3 a4 p0 p1 HC1 hob hg12
  have HCI := Hid.mk' (copy_any HOB.out.bs (by have := HMN.out; have := HM.out; omega))
  go_wp2_with fail
  refine Calls.mono HCI.out ?_
  rintro e w3 h23
  obtain ⟨vi, rfl, hoi, hbl⟩ := h23
  have hg23 : Grow w2 w3 := But.of hbl
  clear hbl
  have HG3 : Hid (Grow wb w3) := HG2.out.trans hg23
  have HOB3 : Hid (Ow w3 wb.heap.size vb xs) := HOB.out.but hg23 (fun _ _ _ h => h)
  have HOI3 : Hid (Ow w3 wb.heap.size vi xs) := hoi.mono HG2.out.size
  have HD3 := Hid.mk' (HD.out.add HG3.out)
  have HFL : Hid (∀ k, G k → k < wb.heap.size) := HD.out.tf.fl
  generalize hG2 : (fun b => G b ∨ (wb.heap.size ≤ b ∧ b < w3.heap.size)) = G2 at HD3
  have HGI : Hid (∀ k, G k → G2 k) := fun k hk => by rw [← hG2]; exact .inl hk
  have HGN : Hid (∀ k, wb.heap.size ≤ k → k < w3.heap.size → G2 k) := fun k h1 h2 => by rw [← hG2]; exact .inr ⟨h1, h2⟩
  have HBB : Hid (Bf w3 G2 vb xs) := ⟨HOB3.out.bs, fun _ j hj => HGN.out j (HOB3.out.ge j hj).1 (HOB3.out.ge j hj).2⟩
  have HBI : Hid (Bf w3 G2 vi xs) := ⟨HOI3.out.bs, fun _ j hj => HGN.out j (HOI3.out.ge j hj).1 (HOI3.out.ge j hj).2⟩
  clear hG2 hoi hg23 HCI HOB
  have a1 : w3.cell? ⟨ga, 1, none⟩ = some (.int .i64 A.a) := HD3.out.a 1
  have a2 : w3.cell? ⟨ga, 2, none⟩ = some (.int .i64 A.b) := HD3.out.a 2
  have a3 : w3.cell? ⟨ga, 3, none⟩ = some ud := HD3.out.a 3
  have a4 : w3.cell? ⟨ga, 4, none⟩ = some uf := HD3.out.a 4
  have p0 : w3.cell? ⟨gp, 0, none⟩ = some (.pointer (some ⟨gd, 0, none⟩)) := HD3.out.p 0
  have p1 : w3.cell? ⟨gp, 1, none⟩ = some (.pointer (some ⟨gx, 0, none⟩)) := HD3.out.p 1
  have HWR3 := Hid.mk' (dwrite_all HD3.out.tf A.a HBI.out HB.out HLE.out)
  rw [← HC.out] at HWR3
  go_wp2_with fail
  refine Calls.mono HWR3.out ?_
  rintro e w4 ⟨rfl, ht4⟩
  have HT4 := Hid.mk' ht4
  clear a1 a2 a3 a4 p0 p1 ht4 HWR3
  have a1 : w4.cell? ⟨ga, 1, none⟩ = some (.int .i64 A.a) := (HD3.out.on HT4.out).a 1
  have a2 : w4.cell? ⟨ga, 2, none⟩ = some (.int .i64 A.b) := (HD3.out.on HT4.out).a 2
  have a3 : w4.cell? ⟨ga, 3, none⟩ = some ud := (HD3.out.on HT4.out).a 3
  have a4 : w4.cell? ⟨ga, 4, none⟩ = some uf := (HD3.out.on HT4.out).a 4
  have p0 : w4.cell? ⟨gp, 0, none⟩ = some (.pointer (some ⟨gd, 0, none⟩)) := (HD3.out.on HT4.out).p 0
  have p1 : w4.cell? ⟨gp, 1, none⟩ = some (.pointer (some ⟨gx, 0, none⟩)) := (HD3.out.on HT4.out).p 1
  have HSA := Hid.mk' (same_any (HT4.out.bf HBI.out).1 (HT4.out.bf HBB.out).1)
  rw [decide_eq_true rfl] at HSA
  go_wp2_with fail
  refine Calls.mono HSA.out ?_
  rintro e w5 ⟨rfl, hd5⟩
  have hg5 : Grow w4 w5 := by obtain ⟨d, rfl⟩ := hd5; exact (But.refl _ w4).drewN
  have HT5 := Hid.mk' (HT4.out.then hg5)
  clear a1 a2 a3 a4 p0 p1 hd5 hg5 HSA
  have a1 : w5.cell? ⟨ga, 1, none⟩ = some (.int .i64 A.a) := (HD3.out.on HT5.out).a 1
  have a2 : w5.cell? ⟨ga, 2, none⟩ = some (.int .i64 A.b) := (HD3.out.on HT5.out).a 2
  have a3 : w5.cell? ⟨ga, 3, none⟩ = some ud := (HD3.out.on HT5.out).a 3
  have a4 : w5.cell? ⟨ga, 4, none⟩ = some uf := (HD3.out.on HT5.out).a 4
  have p0 : w5.cell? ⟨gp, 0, none⟩ = some (.pointer (some ⟨gd, 0, none⟩)) := (HD3.out.on HT5.out).p 0
  have p1 : w5.cell? ⟨gp, 1, none⟩ = some (.pointer (some ⟨gx, 0, none⟩)) := (HD3.out.on HT5.out).p 1
  have HRW := Hid.mk' (rwrite_all HT5.out HA.out HOK.out A.a (HT5.out.bf HBB.out) HB.out HLE.out)
  rw [← HC.out] at HRW
  go_wp2_with fail
  refine Calls.mono HRW.out ?_
  rintro e w6 ⟨rfl, x', ht6, ha6, hx6⟩
  have HT6 := Hid.mk' ht6
  have HA6 := Hid.mk' ha6
  have HX6 := Hid.mk' hx6
  have hnw : Nw w6 wb.heap.size vi xs := (HOI3.out.but ht6.but (fun j hj _ n => n (HGN.out j (HOI3.out.ge j hj).1 (HOI3.out.ge j hj).2))).nw
  obtain ⟨ao, cap, hv, hwr⟩ := hnw.wri
  rw [← HM.out] at hv hwr
  have HAO : Hid (∀ b, 0 < m → ao = some ⟨b, 0, none⟩ → G2 b) := fun b h0 e => by
    have h1 : vi.ownBlock = some b := by rw [hv, e]; rfl
    exact HGN.out b (HOI3.out.ge b h1).1 (HOI3.out.ge b h1).2
  subst hv
  have HW6 := Hid.mk' hwr
  clear a1 a2 a3 a4 p0 p1 ht6 ha6 hx6 hnw hwr HRW HT4 HT5 HBB HBI HOB3 HOI3
  go_wp2
  go_loopw [15] (fun iv wr => ∃ k : Nat, k ≤ m ∧ iv = .int .i64 (k : Int) ∧ Wri w6 wr wb.heap.size ao m) (fun iv _ => m - (intOf iv).toNat)
  case atStart => exact ⟨0, Nat.zero_le _, rfl, HW6.out⟩
  case round =>
    obtain ⟨k, hkm, rfl, hwri⟩ := hrel
    by_cases hlt : k < m
    · have hlt' : (k : Int) < (m : Int) := by omega
      obtain ⟨g, z, rfl, hz, cz, fz, hset⟩ := hwri.next hlt
      have hw1 : IntKind.u8.wrap ((z : Int) + 1) = (((z + 1) % 256 : Nat) : Int) := u8_next z hz
      obtain ⟨y, hy⟩ : ∃ y, y = (z + 1) % 256 := ⟨_, rfl⟩
      rw [← hy] at hw1
      have HS := Hid.mk' (hset y (by omega))
      clear hset hz hy hwri
      go_wp2
      exact ⟨⟨k + 1, by omega, by go_num, HS.out⟩, by simp [intOf]; omega⟩
    · have hlt' : ¬ ((k : Int) < (m : Int)) := by omega
      have HWR := Hid.mk' hwri
      clear hwri
      have hb1 : But (fun b => ¬ G b) wb w6 := (HG3.out.mono (fun _ _ h => h.elim)).then HT6.out.but (fun b _ hn hf => hn (HGI.out b hf))
      have hb2 : But (fun b => ¬ G b) wb wr := hb1.then HWR.out.but (fun b hb e hf => by
        obtain ⟨g, T, R, zs', e1, e2, -⟩ := HWR.out.ex e.1
        rw [e.2] at e1
        simp only [Option.some.injEq, Addr.mk.injEq, and_true] at e1
        omega)
      have ht := (HT6.out.turn (HWR.out.but.mono (fun b _ e => HAO.out b e.1 e.2))).less HGI.out HFL.out hb2
      have HE := Hid.mk' (HFIN.out _ _ _ ht HA6.out (keeps_wrote HB.out HX6.out A.a xs))
      clear hb1 hb2 ht
      go_wp2
      go_ret
      exact ⟨rfl, HE.out⟩
set_option maxRecDepth 100000 in
set_option maxHeartbeats 4000000 in
theorem do_1b {F : Nat → Prop} {w0 w : World} {gd gx n : Nat} {s0 : Dev} {A : DA} {ud uf : Value} (h : DoIn F w0 w gd gx s0 n A ud uf) (hk : A.kind % 11 = 1) (h7 : ¬ A.b = 7) :
    Calls Try.prog 11 #[.agg #[.pointer (some ⟨gd, 0, none⟩), .pointer (some ⟨gx, 0, none⟩)], .agg (dcells A ud uf).toArray] w (DoIs F w0 gd gx s0 (n + 1)) := by
  have HIN := Hid.mk' h
  have HSM := Hid.mk' h.sm
  obtain ⟨wa, hwa⟩ : ∃ wa, wa = w.alloc (.cells #[.pointer (some ⟨gd, 0, none⟩), .pointer (some ⟨gx, 0, none⟩)] 28) := ⟨_, rfl⟩
  obtain ⟨wb, hwb⟩ : ∃ wb, wb = wa.alloc (.cells (dcells A ud uf).toArray 35) := ⟨_, rfl⟩
  obtain ⟨gp, hgp⟩ : ∃ gp, gp = w.heap.size := ⟨_, rfl⟩
  obtain ⟨ga, hga⟩ : ∃ ga, ga = wa.heap.size := ⟨_, rfl⟩
  obtain ⟨s, x, ha, hb, -, hok, hd, hfin⟩ := h.box hwa hwb hgp hga
  generalize FB F w wb = G at hd hfin
  have HA := Hid.mk' ha
  have HB := Hid.mk' hb
  have HOK := Hid.mk' hok
  have HD := Hid.mk' hd
  have HFIN := Hid.mk' hfin
  have HWA := Hid.mk' hwa
  have HWB := Hid.mk' hwb
  have HGP := Hid.mk' hgp
  have HGA : Hid (ga = w.heap.size + 1) := by show _ = _; rw [hga, hwa]; simp
  have HLE : Hid (n ≤ 1000) := Nat.le_trans h.le (by decide)
  have HPK := Hid.mk' (pick11 A.kind wb)
  rw [hk] at HPK
  have a0 : wb.cell? ⟨ga, 0, none⟩ = some (.int .i64 A.kind) := hd.a 0
  have a1 : wb.cell? ⟨ga, 1, none⟩ = some (.int .i64 A.a) := hd.a 1
  have a2 : wb.cell? ⟨ga, 2, none⟩ = some (.int .i64 A.b) := hd.a 2
  have a3 : wb.cell? ⟨ga, 3, none⟩ = some ud := hd.a 3
  have a4 : wb.cell? ⟨ga, 4, none⟩ = some uf := hd.a 4
  have p0 : wb.cell? ⟨gp, 0, none⟩ = some (.pointer (some ⟨gd, 0, none⟩)) := hd.p 0
  have p1 : wb.cell? ⟨gp, 1, none⟩ = some (.pointer (some ⟨gx, 0, none⟩)) := hd.p 1
  unfold dcells at HWB ⊢
  clear h ha hb hok hd hfin hwa hwb hgp hga hk
  go_enter Try.func11, Try.ntmps11
  go_upto_region 1 with fail
  rw [← HWA.out, ← HWB.out, ← HGA.out, ← HGP.out]
  go_wp2_with fail
  refine Calls.mono HPK.out ?_
  rintro e w1 ⟨rfl, hw1⟩
  have h2 := hw1.symm
  subst h2
  clear hw1 HPK HIN HWA HWB HGA HGP
  obtain ⟨xs, hxs⟩ : ∃ xs, xs = (fullOf A.dat) := ⟨_, rfl⟩
  have HXS := Hid.mk' hxs
  obtain ⟨m, hm⟩ : ∃ m, m = xs.length := ⟨_, rfl⟩
  have HM := Hid.mk' hm
  have hmn : m ≤ 1000 := by
    have := (fullOf_wf HD.out.dat.1.1).1
    rw [hm, hxs]
    omega
  have HMN := Hid.mk' hmn
  have hmb : (m : Int) ≤ 1000 := by omega
  obtain ⟨c, hc⟩ : ∃ c, c = s.wcode A.a xs := ⟨_, rfl⟩
  have HC := Hid.mk' hc
  have HFU := Hid.mk' (full_any HD.out.dat.1)
  clear hc hxs hm hmn
  go_wp2_with fail
  refine Calls.mono HFU.out ?_
  rintro e w1 ⟨⟨gf, rfl, hgf, hof⟩, hg1⟩
  have HT1 := Hid.mk' (HD.out.tf.then hg1)
  have HG1 := Hid.mk' hg1
  have HOB : Hid (Ow w1 wb.heap.size (.slice (some ⟨gf, 0, none⟩) 256 256) xs) := by rw [HXS.out]; exact hof
  clear a0 a1 a2 a3 a4 p0 p1 hgf hof hg1 HFU
  have a1 : w1.cell? ⟨ga, 1, none⟩ = some (.int .i64 A.a) := (HD.out.on HT1.out).a 1
  have a2 : w1.cell? ⟨ga, 2, none⟩ = some (.int .i64 A.b) := (HD.out.on HT1.out).a 2
  have a3 : w1.cell? ⟨ga, 3, none⟩ = some ud := (HD.out.on HT1.out).a 3
  have a4 : w1.cell? ⟨ga, 4, none⟩ = some uf := (HD.out.on HT1.out).a 4
  have p0 : w1.cell? ⟨gp, 0, none⟩ = some (.pointer (some ⟨gd, 0, none⟩)) := (HD.out.on HT1.out).p 0
  have p1 : w1.cell? ⟨gp, 1, none⟩ = some (.pointer (some ⟨gx, 0, none⟩)) := (HD.out.on HT1.out).p 1
  have HCI := Hid.mk' (copy_any HOB.out.bs (by have := HMN.out; have := HM.out; omega))
  go_wp2_with fail
  refine Calls.mono HCI.out ?_
  rintro e w3 h23
  obtain ⟨vi, rfl, hoi, hbl⟩ := h23
  have hg23 : Grow w1 w3 := But.of hbl
  clear hbl
  have HG3 : Hid (Grow wb w3) := HG1.out.trans hg23
  have HOB3 : Hid (Ow w3 wb.heap.size (.slice (some ⟨gf, 0, none⟩) 256 256) xs) := HOB.out.but hg23 (fun _ _ _ h => h)
  have HOI3 : Hid (Ow w3 wb.heap.size vi xs) := hoi.mono HG1.out.size
  have HD3 := Hid.mk' (HD.out.add HG3.out)
  have HFL : Hid (∀ k, G k → k < wb.heap.size) := HD.out.tf.fl
  generalize hG2 : (fun b => G b ∨ (wb.heap.size ≤ b ∧ b < w3.heap.size)) = G2 at HD3
  have HGI : Hid (∀ k, G k → G2 k) := fun k hk => by rw [← hG2]; exact .inl hk
  have HGN : Hid (∀ k, wb.heap.size ≤ k → k < w3.heap.size → G2 k) := fun k h1 h2 => by rw [← hG2]; exact .inr ⟨h1, h2⟩
  have HBB : Hid (Bf w3 G2 (.slice (some ⟨gf, 0, none⟩) 256 256) xs) := ⟨HOB3.out.bs, fun _ j hj => HGN.out j (HOB3.out.ge j hj).1 (HOB3.out.ge j hj).2⟩
  have HBI : Hid (Bf w3 G2 vi xs) := ⟨HOI3.out.bs, fun _ j hj => HGN.out j (HOI3.out.ge j hj).1 (HOI3.out.ge j hj).2⟩
  clear a1 a2 a3 a4 p0 p1 hG2 hoi hg23 HCI HOB
  have a1 : w3.cell? ⟨ga, 1, none⟩ = some (.int .i64 A.a) := HD3.out.a 1
  have a2 : w3.cell? ⟨ga, 2, none⟩ = some (.int .i64 A.b) := HD3.out.a 2
  have a3 : w3.cell? ⟨ga, 3, none⟩ = some ud := HD3.out.a 3
  have a4 : w3.cell? ⟨ga, 4, none⟩ = some uf := HD3.out.a 4
  have p0 : w3.cell? ⟨gp, 0, none⟩ = some (.pointer (some ⟨gd, 0, none⟩)) := HD3.out.p 0
  have p1 : w3.cell? ⟨gp, 1, none⟩ = some (.pointer (some ⟨gx, 0, none⟩)) := HD3.out.p 1
  have HWR3 := Hid.mk' (dwrite_all HD3.out.tf A.a HBI.out HB.out HLE.out)
  rw [← HC.out] at HWR3
  go_wp2_with fail
  refine Calls.mono HWR3.out ?_
  rintro e w4 ⟨rfl, ht4⟩
  have HT4 := Hid.mk' ht4
  clear a1 a2 a3 a4 p0 p1 ht4 HWR3
  have a1 : w4.cell? ⟨ga, 1, none⟩ = some (.int .i64 A.a) := (HD3.out.on HT4.out).a 1
  have a2 : w4.cell? ⟨ga, 2, none⟩ = some (.int .i64 A.b) := (HD3.out.on HT4.out).a 2
  have a3 : w4.cell? ⟨ga, 3, none⟩ = some ud := (HD3.out.on HT4.out).a 3
  have a4 : w4.cell? ⟨ga, 4, none⟩ = some uf := (HD3.out.on HT4.out).a 4
  have p0 : w4.cell? ⟨gp, 0, none⟩ = some (.pointer (some ⟨gd, 0, none⟩)) := (HD3.out.on HT4.out).p 0
  have p1 : w4.cell? ⟨gp, 1, none⟩ = some (.pointer (some ⟨gx, 0, none⟩)) := (HD3.out.on HT4.out).p 1
  have HSA := Hid.mk' (same_any (HT4.out.bf HBI.out).1 (HT4.out.bf HBB.out).1)
  rw [decide_eq_true rfl] at HSA
  go_wp2_with fail
  refine Calls.mono HSA.out ?_
  rintro e w5 ⟨rfl, hd5⟩
  have hg5 : Grow w4 w5 := by obtain ⟨d, rfl⟩ := hd5; exact (But.refl _ w4).drewN
  have HT5 := Hid.mk' (HT4.out.then hg5)
  clear a1 a2 a3 a4 p0 p1 hd5 hg5 HSA
  have a1 : w5.cell? ⟨ga, 1, none⟩ = some (.int .i64 A.a) := (HD3.out.on HT5.out).a 1
  have a2 : w5.cell? ⟨ga, 2, none⟩ = some (.int .i64 A.b) := (HD3.out.on HT5.out).a 2
  have a3 : w5.cell? ⟨ga, 3, none⟩ = some ud := (HD3.out.on HT5.out).a 3
  have a4 : w5.cell? ⟨ga, 4, none⟩ = some uf := (HD3.out.on HT5.out).a 4
  have p0 : w5.cell? ⟨gp, 0, none⟩ = some (.pointer (some ⟨gd, 0, none⟩)) := (HD3.out.on HT5.out).p 0
  have p1 : w5.cell? ⟨gp, 1, none⟩ = some (.pointer (some ⟨gx, 0, none⟩)) := (HD3.out.on HT5.out).p 1
  have HRW := Hid.mk' (rwrite_all HT5.out HA.out HOK.out A.a (HT5.out.bf HBB.out) HB.out HLE.out)
  rw [← HC.out] at HRW
  go_wp2_with fail
  refine Calls.mono HRW.out ?_
  rintro e w6 ⟨rfl, x', ht6, ha6, hx6⟩
  have HT6 := Hid.mk' ht6
  have HA6 := Hid.mk' ha6
  have HX6 := Hid.mk' hx6
  have hnw : Nw w6 wb.heap.size vi xs := (HOI3.out.but ht6.but (fun j hj _ n => n (HGN.out j (HOI3.out.ge j hj).1 (HOI3.out.ge j hj).2))).nw
  obtain ⟨ao, cap, hv, hwr⟩ := hnw.wri
  rw [← HM.out] at hv hwr
  have HAO : Hid (∀ b, 0 < m → ao = some ⟨b, 0, none⟩ → G2 b) := fun b h0 e => by
    have h1 : vi.ownBlock = some b := by rw [hv, e]; rfl
    exact HGN.out b (HOI3.out.ge b h1).1 (HOI3.out.ge b h1).2
  subst hv
  have HW6 := Hid.mk' hwr
  clear a1 a2 a3 a4 p0 p1 ht6 ha6 hx6 hnw hwr HRW HT4 HT5 HBB HBI HOB3 HOI3
  go_wp2
  go_loopw [15] (fun iv wr => ∃ k : Nat, k ≤ m ∧ iv = .int .i64 (k : Int) ∧ Wri w6 wr wb.heap.size ao m) (fun iv _ => m - (intOf iv).toNat)
  case atStart => exact ⟨0, Nat.zero_le _, rfl, HW6.out⟩
  case round =>
    obtain ⟨k, hkm, rfl, hwri⟩ := hrel
    by_cases hlt : k < m
    · have hlt' : (k : Int) < (m : Int) := by omega
      obtain ⟨g, z, rfl, hz, cz, fz, hset⟩ := hwri.next hlt
      have hw1 : IntKind.u8.wrap ((z : Int) + 1) = (((z + 1) % 256 : Nat) : Int) := u8_next z hz
      obtain ⟨y, hy⟩ : ∃ y, y = (z + 1) % 256 := ⟨_, rfl⟩
      rw [← hy] at hw1
      have HS := Hid.mk' (hset y (by omega))
      clear hset hz hy hwri
      go_wp2
      exact ⟨⟨k + 1, by omega, by go_num, HS.out⟩, by simp [intOf]; omega⟩
    · have hlt' : ¬ ((k : Int) < (m : Int)) := by omega
      have HWR := Hid.mk' hwri
      clear hwri
      have hb1 : But (fun b => ¬ G b) wb w6 := (HG3.out.mono (fun _ _ h => h.elim)).then HT6.out.but (fun b _ hn hf => hn (HGI.out b hf))
      have hb2 : But (fun b => ¬ G b) wb wr := hb1.then HWR.out.but (fun b hb e hf => by
        obtain ⟨g, T, R, zs', e1, e2, -⟩ := HWR.out.ex e.1
        rw [e.2] at e1
        simp only [Option.some.injEq, Addr.mk.injEq, and_true] at e1
        omega)
      have ht := (HT6.out.turn (HWR.out.but.mono (fun b _ e => HAO.out b e.1 e.2))).less HGI.out HFL.out hb2
      have HE := Hid.mk' (HFIN.out _ _ _ ht HA6.out (keeps_wrote HB.out HX6.out A.a xs))
      clear hb1 hb2 ht
      go_wp2
      go_ret
      exact ⟨rfl, HE.out⟩
end Go.Proofs.Ytfgcbcopgikodaa
/- The law's do, whatever the act is; the reference's fields; what a law sees of its script. -/
namespace Go.Proofs.Ytfgcbcopgikodaa
open Go.RowKit

theorem do_any {F : Nat → Prop} {w0 w : World} {gd gx n : Nat} {s0 : Dev} {A : DA} {ud uf : Value} (h : DoIn F w0 w gd gx s0 n A ud uf) :
    Calls Try.prog 11 #[.agg #[.pointer (some ⟨gd, 0, none⟩), .pointer (some ⟨gx, 0, none⟩)], .agg (dcells A ud uf).toArray] w (DoIs F w0 gd gx s0 (n + 1)) := by
  have h1 := Int.emod_nonneg A.kind (b := 11) (by decide)
  have h2 := Int.emod_lt_of_pos A.kind (b := 11) (by decide)
  rcases (by omega : A.kind % 11 = 0 ∨ A.kind % 11 = 1 ∨ A.kind % 11 = 2 ∨ A.kind % 11 = 3 ∨ A.kind % 11 = 4 ∨ A.kind % 11 = 5 ∨ A.kind % 11 = 6 ∨ A.kind % 11 = 7 ∨ A.kind % 11 = 8 ∨ A.kind % 11 = 9 ∨ A.kind % 11 = 10) with k | k | k | k | k | k | k | k | k | k | k
  · exact do_0 h k
  · by_cases h7 : A.b = 7
    · exact do_1a h k h7
    · exact do_1b h k h7
  · exact do_2 h k
  · exact do_3 h k
  · exact do_4 h k
  · exact do_5 h k
  · exact do_6 h k
  · exact do_7 h k
  · exact do_8 h k
  · exact do_9 h k
  · exact do_10 h k
theorem DoTo.then {F : Nat → Prop} {w0 w w' : World} {gd gx n : Nat} {s0 : Dev} (h : DoTo F w0 w gd gx s0 n) (k : Grow w w') : DoTo F w0 w' gd gx s0 n := by
  obtain ⟨s, x, h1, h2⟩ := h.ex
  exact ⟨s, x, h1.then k, h2⟩
theorem DoTo.but {F : Nat → Prop} {w0 w : World} {gd gx n : Nat} {s0 : Dev} (h : DoTo F w0 w gd gx s0 n) : But (fun b => ¬ F b) w0 w := by
  obtain ⟨s, x, h1, h2⟩ := h.ex
  exact h1.but
/-- A whole struct is loaded. -/
theorem exec_load_agg {w : World} {o : Oper} {ρ : Operand → Value} {T : TypeId} {d : TypeDesc} (hu : Try.prog.underlying T = some d) (hd : (match d with | .struct _ | .array _ _ => true | _ => false) = true) {cs : List Value} (hi : (Try.prog.info? T).map (·.size) = some cs.length) {x : Operand} {ad : Addr} (hc : ∀ j u, cs[j]? = some u → w.cell? (ad.add j) = some u)
    (ho : o.op = .load T x) (hx : ρ x = .pointer (some ad)) : (execOp ρ o).run Try.prog w = .ok (.value (.agg cs.toArray)) w := by
  have h := run_loadVar_cells w ad T cs _ hc hu hd hi
  unfold execOp
  simp only [ho, hx, Instr.loadAt, Instr.sureAddr, Sem.run_bind, Sem.run_pure, Result.andThen_ok, h]
theorem iAct : (Try.prog.info? 35).map (·.size) = some 5 := by kernel_rfl
section
variable {F : Nat → Prop} {w0 w : World} {gd gx : Nat} {s : Dev} {x : Rdv}
/-- The reference's fields. -/
theorem Tf.xblk (h : Tf F w0 w gd gx s x) : ∃ a c aq cq vc vw, Blk w gx 42 [.slice a x.st.length c, .slice aq x.wt.length cq, .bool x.off, .int .i64 (x.arm : Int), .int .i64 (x.cnt : Int), vc, vw] := by
  obtain ⟨ro, ⟨vs, vq, vc, vw, hd⟩, -, -⟩ := h.ref
  obtain ⟨a, c, rfl⟩ := hd.sto.len
  obtain ⟨aq, cq, rfl⟩ := hd.wai.len
  exact ⟨a, c, aq, cq, vc, vw, hd.blk⟩
theorem Tf.xwr (h : Tf F w0 w gd gx s x) : ∃ vw L, w.cell? ⟨gx, 6, none⟩ = some vw ∧ TwR w vw L ∧ L.map (·.1) = x.wr := by
  obtain ⟨ro, ⟨vs, vq, vc, vw, hd⟩, -, -⟩ := h.ref
  obtain ⟨L, h1, h2, h3⟩ := hd.wri.ex
  exact ⟨vw, L, hd.blk.cell 6, ⟨h2.own, fun e he => (h3 e he).1⟩, h1⟩
end
theorem IntS.f {w : World} {v : Value} {fs : List Int} (h : IntS w v fs) : IntF w (· < w.heap.size) v fs := ⟨h, fun h0 j hj => by
  obtain ⟨-, -, ⟨rfl, -⟩ | ⟨-, b, off, cap, rfl, hb, -⟩⟩ := h
  · simp at h0
  · have e : some b = some j := hj
    rw [← Option.some.inj e]; exact hb⟩
/-- An act of the script, as it stands in a later world. -/
theorem DActs.at {w : World} {v : Value} {n i : Nat} {A : Nat → DA} (h : DActs w v n A) (hi : i < n) : ∃ b off cap ud uf, v = .slice (some ⟨b, off, none⟩) n cap ∧ b < w.heap.size ∧
    (∀ w' : World, w'.heap[b]? = w.heap[b]? → ∀ c u, (dcells (A i) ud uf)[c]? = some u → w'.cell? ((⟨b, off + i * 5, none⟩ : Addr).add c) = some u) ∧
    (-9223372036854775808 ≤ (A i).a ∧ (A i).a ≤ 9223372036854775807) ∧ (-9223372036854775808 ≤ (A i).b ∧ (A i).b ≤ 9223372036854775807) ∧ Bf w (· < w.heap.size) ud (A i).dat ∧ IntF w (· < w.heap.size) uf (A i).fat := by
  obtain ⟨hn, ⟨h0, -⟩ | ⟨h0, b, off, cap, rfl, hb, hc⟩⟩ := h
  · omega
  · have h1 := hc i hi
    obtain ⟨ud, uf, h2, h3, h4⟩ := h1.ex
    exact ⟨b, off, cap, ud, uf, rfl, hb, fun w' hw c u hu => by rw [addr_add]; exact (World.cell?_of_block hw).trans (h2 c u hu), h1.ra, h1.rb, h3.bf, h4.f⟩
/-- The same slice, its address a letter. -/
theorem DActs.sl {w : World} {v : Value} {n : Nat} {A : Nat → DA} (h : DActs w v n A) : ∃ ao cap, v = .slice ao n cap := by
  obtain ⟨hn, ⟨rfl, ao, cap, e⟩ | ⟨h0, b, off, cap, e, -⟩⟩ := h
  · exact ⟨ao, cap, e⟩
  · exact ⟨_, cap, e⟩
end Go.Proofs.Ytfgcbcopgikodaa
/- The law's alike: all that is told of both is the same. -/
namespace Go.Proofs.Ytfgcbcopgikodaa
open Go.RowKit

set_option maxRecDepth 100000 in
set_option maxHeartbeats 4000000 in
theorem alike_up {F : Nat → Prop} {w0 w : World} {gd gx n : Nat} {s : Dev} {x : Rdv} (h : Tf F w0 w gd gx s x) (ha : Agr s x) (b : Sm s x n) (hn : n ≤ 1000) (hu : s.up = true) :
    Calls Try.prog 12 #[.agg #[.pointer (some ⟨gd, 0, none⟩), .pointer (some ⟨gx, 0, none⟩)]] w fun e w' => e = .returned (.bool true) ∧ Grow w w' := by
  have hok := h.ok
  obtain ⟨wb, hwb⟩ : ∃ wb, wb = w.alloc (.cells #[.pointer (some ⟨gd, 0, none⟩), .pointer (some ⟨gx, 0, none⟩)] 28) := ⟨_, rfl⟩
  obtain ⟨gp, hgp⟩ : ∃ gp, gp = w.heap.size := ⟨_, rfl⟩
  have hg : Grow w wb := by rw [hwb]; exact (But.refl _ w).alloc _
  have HBP : Hid (Blk wb gp 28 [.pointer (some ⟨gd, 0, none⟩), .pointer (some ⟨gx, 0, none⟩)]) := by show Blk _ _ _ _; rw [hwb]; exact Blk.new (L := [.pointer (some ⟨gd, 0, none⟩), .pointer (some ⟨gx, 0, none⟩)]) hgp.symm
  have HG := Hid.mk' hg
  have HT := Hid.mk' (h.then hg)
  obtain ⟨a, c, aq, cq, vc, vw, hxb⟩ := HT.out.xblk
  rw [ha.st, ha.cnt, ha.offF hu, ha.wt, List.length_map] at hxb
  have HXB := Hid.mk' hxb
  have HU := Hid.mk' hu
  have HA := Hid.mk' ha
  have HB := Hid.mk' b
  have HN := Hid.mk' hn
  have HOK := Hid.mk' hok
  have HW := Hid.mk' hwb
  have HGP := Hid.mk' hgp
  obtain ⟨nw, hnw⟩ : ∃ nw, nw = s.wt.length := ⟨_, rfl⟩
  obtain ⟨ns, hns⟩ : ∃ ns, ns = s.st.length := ⟨_, rfl⟩
  obtain ⟨cn, hcn⟩ : ∃ cn, cn = s.cnt := ⟨_, rfl⟩
  have hnsb : (ns : Int) ≤ 65536 := by have := hok.nb; omega
  have HNS := Hid.mk' hns
  rw [← hnw, ← hns, ← hcn] at HXB
  have HWA : Hid (∀ w', Grow wb w' → Calls Try.prog 22 #[.pointer (some ⟨gd, 0, none⟩)] w' fun e w'' => e = .returned (.int .i64 (nw : Int)) ∧ Grow w' w'') := fun w' k => by
    obtain ⟨own, hd, -, -⟩ := (HT.out.then k).dev
    rw [hnw]
    exact waits_any hd (by have := b.wr; omega)
  have HCO : Hid (∀ w', Grow wb w' → Calls Try.prog 28 #[.pointer (some ⟨gd, 0, none⟩)] w' fun e w'' => e = .returned (.int .i64 (cn : Int)) ∧ Grow w' w'') := fun w' k => by
    obtain ⟨own, hd, -, -⟩ := (HT.out.then k).dev
    rw [hcn]
    refine (count_any hd).mono ?_
    rintro e w'' ⟨rfl, rfl⟩
    exact ⟨rfl, But.refl _ _⟩
  have HUP : Hid (∀ w', Grow wb w' → Calls Try.prog 45 #[.pointer (some ⟨gd, 0, none⟩)] w' fun e w'' => e = .returned (.bool true) ∧ Grow w' w'') := fun w' k => by
    obtain ⟨own, hd, -, -⟩ := (HT.out.then k).dev
    refine (up_any hd).mono ?_
    rintro e w'' ⟨rfl, rfl⟩
    exact ⟨by rw [hu], But.refl _ _⟩
  have HBL : Hid (∀ w', Grow wb w' → Calls Try.prog 18 #[.pointer (some ⟨gd, 0, none⟩)] w' fun e w'' => e = .returned (.int .i64 (ns : Int)) ∧ Grow w' w'') := fun w' k => by
    obtain ⟨own, hd, -, -⟩ := (HT.out.then k).dev
    rw [hns]
    refine (blocks_any hd).mono ?_
    rintro e w'' ⟨rfl, rfl⟩
    exact ⟨rfl, But.refl _ _⟩
  clear h ha b hn hu hok hwb hgp hg hxb hnw hns hcn
  go_enter Try.func12, Try.ntmps12
  go_upto_region 1 with fail
  rw [← HW.out, ← HGP.out]
  clear HW HGP
  refine region_chain [] [0, 1, 2, 3, 4, 5, 6, 7, 8, 9, 10, 11, 12, 13, 14, 15, 16, 17, 18, 19, 20, 21, 22, 23, 24, 25, 26, 27, 28, 29, 30, 31, 32, 33, 34, 35, 36, 37, 38, 39, 40, 41, 42, 43] (Grow wb) (Grow wb) (by kernel_rfl) (by kernel_rfl) (fun _ _ h k => h.trans k) (fun _ h => h) ((But.refl _ wb).drew) ?_
  intro ι hne X hX
  have p0 : ∀ x, (X x).cell? ⟨gp, 0, none⟩ = some (.pointer (some ⟨gd, 0, none⟩)) := fun x => (HBP.out.but (hX x) (fun h => h)).cell 0
  have p1 : ∀ x, (X x).cell? ⟨gp, 1, none⟩ = some (.pointer (some ⟨gx, 0, none⟩)) := fun x => (HBP.out.but (hX x) (fun h => h)).cell 1
  have x0 : ∀ x, (X x).cell? ⟨gx, 0, none⟩ = some (.slice a ns c) := fun x => (HXB.out.but (hX x) (fun h => h)).cell 0
  have x1 : ∀ x, (X x).cell? ⟨gx, 1, none⟩ = some (.slice aq nw cq) := fun x => (HXB.out.but (hX x) (fun h => h)).cell 1
  have x2 : ∀ x, (X x).cell? ⟨gx, 2, none⟩ = some (.bool false) := fun x => (HXB.out.but (hX x) (fun h => h)).cell 2
  have x4 : ∀ x, (X x).cell? ⟨gx, 4, none⟩ = some (.int .i64 (cn : Int)) := fun x => (HXB.out.but (hX x) (fun h => h)).cell 4
  iterate 2 (refine still_step rfl (fun K hK => ?_); go_simp; refine hK _ ?_; clear hK K)
  refine still_call rfl (.int .i64 (nw : Int)) 22 #[.pointer (some ⟨gd, 0, none⟩)] rfl (fun x => by kernel_rfl) (fun x => HWA.out _ (hX x)) ?_
  intro K hK; go_simp; refine hK _ ?_; clear hK K
  iterate 10 (refine still_step rfl (fun K hK => ?_); go_simp; refine hK _ ?_; clear hK K)
  refine still_call rfl (.int .i64 (cn : Int)) 28 #[.pointer (some ⟨gd, 0, none⟩)] rfl (fun x => by kernel_rfl) (fun x => HCO.out _ (hX x)) ?_
  intro K hK; go_simp; refine hK _ ?_; clear hK K
  iterate 10 (refine still_step rfl (fun K hK => ?_); go_simp; refine hK _ ?_; clear hK K)
  refine still_call rfl (.bool true) 45 #[.pointer (some ⟨gd, 0, none⟩)] rfl (fun x => by kernel_rfl) (fun x => HUP.out _ (hX x)) ?_
  intro K hK; go_simp; refine hK _ ?_; clear hK K
  iterate 10 (refine still_step rfl (fun K hK => ?_); go_simp; refine hK _ ?_; clear hK K)
  refine still_call rfl (.int .i64 (ns : Int)) 18 #[.pointer (some ⟨gd, 0, none⟩)] rfl (fun x => by kernel_rfl) (fun x => HBL.out _ (hX x)) ?_
  intro K hK; go_simp; refine hK _ ?_; clear hK K
  iterate 8 (refine still_step rfl (fun K hK => ?_); go_simp; refine hK _ ?_; clear hK K)
  refine still_nil ?_
  clear hX hne p0 p1 x0 x1 x2 x4
  intro w1 hw1
  have HG1 := Hid.mk' hw1
  clear hw1 HWA HCO HUP HBL
  go_wp2
  go_loopw [3] (fun iv wr => ∃ k : Nat, k ≤ ns ∧ iv = .int .i64 (k : Int) ∧ Grow wb wr) (fun iv _ => ns - (intOf iv).toNat)
  case atStart => exact ⟨0, Nat.zero_le _, rfl, HG1.out⟩
  case round =>
    clear HG1
    obtain ⟨k, hk, rfl, hgr⟩ := hrel
    have HGR := Hid.mk' hgr
    have p0 : wr.cell? ⟨gp, 0, none⟩ = some (.pointer (some ⟨gd, 0, none⟩)) := (HBP.out.but hgr (fun h => h)).cell 0
    have p1 : wr.cell? ⟨gp, 1, none⟩ = some (.pointer (some ⟨gx, 0, none⟩)) := (HBP.out.but hgr (fun h => h)).cell 1
    have x0 : wr.cell? ⟨gx, 0, none⟩ = some (.slice a ns c) := (HXB.out.but hgr (fun h => h)).cell 0
    have x2 : wr.cell? ⟨gx, 2, none⟩ = some (.bool false) := (HXB.out.but hgr (fun h => h)).cell 2
    clear hgr
    by_cases hlt : k < ns
    · have hlt' : (k : Int) < (ns : Int) := by omega
      have HRD := Hid.mk' (dread_all (HT.out.then HGR.out) (k : Int))
      have hB : s.hasB (k : Int) = true := decide_eq_true ⟨by omega, by have := HNS.out; omega⟩
      rw [show s.rcode (k : Int) = 0 by unfold Dev.rcode; rw [HU.out, hB]; rfl, show s.rbytes (k : Int) = s.now k by unfold Dev.rbytes; rw [HU.out, hB]; rfl] at HRD
      clear hB
      go_wp2_with fail
      refine Calls.mono HRD.out ?_
      rintro e w2 ⟨v, rfl, hnw, hg2⟩
      obtain ⟨av, nv, cv, hv⟩ := hnw.bs.sl
      subst hv
      have HV := Hid.mk' hnw.bs
      have HG2 : Hid (Grow wb w2) := HGR.out.trans hg2
      have HNO : Hid (Calls Try.prog 46 #[.pointer (some ⟨gx, 0, none⟩), .int .i64 (k : Int)] w2 fun e w' => ∃ v, e = .returned v ∧ Ow w' w2.heap.size v (s.now k) ∧ Grow w2 w') := by
        obtain ⟨ro, hd, -, -⟩ := (HT.out.then HG2.out).ref
        have := rnow_any hd (b := k) (by rw [HA.out.st, ← HNS.out]; exact hlt) (HA.out.wtl HOK.out HB.out HN.out).1
        rw [HA.out.now] at this
        exact this
      clear p0 p1 x0 x2 hnw hg2 HRD
      have p1 : w2.cell? ⟨gp, 1, none⟩ = some (.pointer (some ⟨gx, 0, none⟩)) := (HBP.out.but HG2.out (fun h => h)).cell 1
      go_wp2_with fail
      refine Calls.mono HNO.out ?_
      rintro e w3 ⟨u, rfl, hu, hg3⟩
      have HSA := Hid.mk' (same_any (HV.out.but hg3 (fun _ _ _ h => h)) hu.bs)
      rw [decide_eq_true rfl] at HSA
      have HG3 : Hid (Grow wb w3) := HG2.out.trans hg3
      clear p1 hu hg3 HNO HV
      go_wp2_with fail
      refine Calls.mono HSA.out ?_
      rintro e w4 ⟨rfl, hd4⟩
      have HG4 : Hid (Grow wb w4) := by obtain ⟨d, rfl⟩ := hd4; exact HG3.out.drewN
      clear hd4 HSA
      go_wp2
      exact ⟨⟨k + 1, by omega, by go_num, HG4.out⟩, by simp [intOf]; omega⟩
    · have hlt' : ¬ ((k : Int) < (ns : Int)) := by omega
      go_wp2
      go_ret
      exact ⟨rfl, HG.out.trans HGR.out⟩
set_option maxRecDepth 100000 in
set_option maxHeartbeats 4000000 in
theorem alike_down {F : Nat → Prop} {w0 w : World} {gd gx n : Nat} {s : Dev} {x : Rdv} (h : Tf F w0 w gd gx s x) (ha : Agr s x) (b : Sm s x n) (hn : n ≤ 1000) (hu : s.up = false) :
    Calls Try.prog 12 #[.agg #[.pointer (some ⟨gd, 0, none⟩), .pointer (some ⟨gx, 0, none⟩)]] w fun e w' => e = .returned (.bool true) ∧ Grow w w' := by
  have hok := h.ok
  obtain ⟨wb, hwb⟩ : ∃ wb, wb = w.alloc (.cells #[.pointer (some ⟨gd, 0, none⟩), .pointer (some ⟨gx, 0, none⟩)] 28) := ⟨_, rfl⟩
  obtain ⟨gp, hgp⟩ : ∃ gp, gp = w.heap.size := ⟨_, rfl⟩
  have hg : Grow w wb := by rw [hwb]; exact (But.refl _ w).alloc _
  have HBP : Hid (Blk wb gp 28 [.pointer (some ⟨gd, 0, none⟩), .pointer (some ⟨gx, 0, none⟩)]) := by show Blk _ _ _ _; rw [hwb]; exact Blk.new (L := [.pointer (some ⟨gd, 0, none⟩), .pointer (some ⟨gx, 0, none⟩)]) hgp.symm
  have HG := Hid.mk' hg
  have HT := Hid.mk' (h.then hg)
  obtain ⟨a, c, aq, cq, vc, vw, hxb⟩ := HT.out.xblk
  rw [ha.st, ha.cnt, ha.offT hu, ha.wt, List.length_map] at hxb
  have HXB := Hid.mk' hxb
  have HU := Hid.mk' hu
  have HA := Hid.mk' ha
  have HB := Hid.mk' b
  have HN := Hid.mk' hn
  have HOK := Hid.mk' hok
  have HW := Hid.mk' hwb
  have HGP := Hid.mk' hgp
  obtain ⟨nw, hnw⟩ : ∃ nw, nw = s.wt.length := ⟨_, rfl⟩
  obtain ⟨ns, hns⟩ : ∃ ns, ns = s.st.length := ⟨_, rfl⟩
  obtain ⟨cn, hcn⟩ : ∃ cn, cn = s.cnt := ⟨_, rfl⟩
  have hnsb : (ns : Int) ≤ 65536 := by have := hok.nb; omega
  have HNS := Hid.mk' hns
  rw [← hnw, ← hns, ← hcn] at HXB
  have HWA : Hid (∀ w', Grow wb w' → Calls Try.prog 22 #[.pointer (some ⟨gd, 0, none⟩)] w' fun e w'' => e = .returned (.int .i64 (nw : Int)) ∧ Grow w' w'') := fun w' k => by
    obtain ⟨own, hd, -, -⟩ := (HT.out.then k).dev
    rw [hnw]
    exact waits_any hd (by have := b.wr; omega)
  have HCO : Hid (∀ w', Grow wb w' → Calls Try.prog 28 #[.pointer (some ⟨gd, 0, none⟩)] w' fun e w'' => e = .returned (.int .i64 (cn : Int)) ∧ Grow w' w'') := fun w' k => by
    obtain ⟨own, hd, -, -⟩ := (HT.out.then k).dev
    rw [hcn]
    refine (count_any hd).mono ?_
    rintro e w'' ⟨rfl, rfl⟩
    exact ⟨rfl, But.refl _ _⟩
  have HUP : Hid (∀ w', Grow wb w' → Calls Try.prog 45 #[.pointer (some ⟨gd, 0, none⟩)] w' fun e w'' => e = .returned (.bool false) ∧ Grow w' w'') := fun w' k => by
    obtain ⟨own, hd, -, -⟩ := (HT.out.then k).dev
    refine (up_any hd).mono ?_
    rintro e w'' ⟨rfl, rfl⟩
    exact ⟨by rw [hu], But.refl _ _⟩
  have HBL : Hid (∀ w', Grow wb w' → Calls Try.prog 18 #[.pointer (some ⟨gd, 0, none⟩)] w' fun e w'' => e = .returned (.int .i64 (ns : Int)) ∧ Grow w' w'') := fun w' k => by
    obtain ⟨own, hd, -, -⟩ := (HT.out.then k).dev
    rw [hns]
    refine (blocks_any hd).mono ?_
    rintro e w'' ⟨rfl, rfl⟩
    exact ⟨rfl, But.refl _ _⟩
  clear h ha b hn hu hok hwb hgp hg hxb hnw hns hcn
  go_enter Try.func12, Try.ntmps12
  go_upto_region 1 with fail
  rw [← HW.out, ← HGP.out]
  clear HW HGP
  refine region_chain [] [0, 1, 2, 3, 4, 5, 6, 7, 8, 9, 10, 11, 12, 13, 14, 15, 16, 17, 18, 19, 20, 21, 22, 23, 24, 25, 26, 27, 28, 29, 30, 31, 32, 33, 34, 35, 36, 37, 38, 39, 40, 41, 42, 43] (Grow wb) (Grow wb) (by kernel_rfl) (by kernel_rfl) (fun _ _ h k => h.trans k) (fun _ h => h) ((But.refl _ wb).drew) ?_
  intro ι hne X hX
  have p0 : ∀ x, (X x).cell? ⟨gp, 0, none⟩ = some (.pointer (some ⟨gd, 0, none⟩)) := fun x => (HBP.out.but (hX x) (fun h => h)).cell 0
  have p1 : ∀ x, (X x).cell? ⟨gp, 1, none⟩ = some (.pointer (some ⟨gx, 0, none⟩)) := fun x => (HBP.out.but (hX x) (fun h => h)).cell 1
  have x0 : ∀ x, (X x).cell? ⟨gx, 0, none⟩ = some (.slice a ns c) := fun x => (HXB.out.but (hX x) (fun h => h)).cell 0
  have x1 : ∀ x, (X x).cell? ⟨gx, 1, none⟩ = some (.slice aq nw cq) := fun x => (HXB.out.but (hX x) (fun h => h)).cell 1
  have x2 : ∀ x, (X x).cell? ⟨gx, 2, none⟩ = some (.bool true) := fun x => (HXB.out.but (hX x) (fun h => h)).cell 2
  have x4 : ∀ x, (X x).cell? ⟨gx, 4, none⟩ = some (.int .i64 (cn : Int)) := fun x => (HXB.out.but (hX x) (fun h => h)).cell 4
  iterate 2 (refine still_step rfl (fun K hK => ?_); go_simp; refine hK _ ?_; clear hK K)
  refine still_call rfl (.int .i64 (nw : Int)) 22 #[.pointer (some ⟨gd, 0, none⟩)] rfl (fun x => by kernel_rfl) (fun x => HWA.out _ (hX x)) ?_
  intro K hK; go_simp; refine hK _ ?_; clear hK K
  iterate 10 (refine still_step rfl (fun K hK => ?_); go_simp; refine hK _ ?_; clear hK K)
  refine still_call rfl (.int .i64 (cn : Int)) 28 #[.pointer (some ⟨gd, 0, none⟩)] rfl (fun x => by kernel_rfl) (fun x => HCO.out _ (hX x)) ?_
  intro K hK; go_simp; refine hK _ ?_; clear hK K
  iterate 10 (refine still_step rfl (fun K hK => ?_); go_simp; refine hK _ ?_; clear hK K)
  refine still_call rfl (.bool false) 45 #[.pointer (some ⟨gd, 0, none⟩)] rfl (fun x => by kernel_rfl) (fun x => HUP.out _ (hX x)) ?_
  intro K hK; go_simp; refine hK _ ?_; clear hK K
  iterate 10 (refine still_step rfl (fun K hK => ?_); go_simp; refine hK _ ?_; clear hK K)
  refine still_call rfl (.int .i64 (ns : Int)) 18 #[.pointer (some ⟨gd, 0, none⟩)] rfl (fun x => by kernel_rfl) (fun x => HBL.out _ (hX x)) ?_
  intro K hK; go_simp; refine hK _ ?_; clear hK K
  iterate 8 (refine still_step rfl (fun K hK => ?_); go_simp; refine hK _ ?_; clear hK K)
  refine still_nil ?_
  clear hX hne p0 p1 x0 x1 x2 x4
  intro w1 hw1
  have HG1 := Hid.mk' hw1
  clear hw1 HWA HCO HUP HBL
  go_wp2
  go_loopw [3] (fun iv wr => ∃ k : Nat, k ≤ ns ∧ iv = .int .i64 (k : Int) ∧ Grow wb wr) (fun iv _ => ns - (intOf iv).toNat)
  case atStart => exact ⟨0, Nat.zero_le _, rfl, HG1.out⟩
  case round =>
    clear HG1
    obtain ⟨k, hk, rfl, hgr⟩ := hrel
    have HGR := Hid.mk' hgr
    have p0 : wr.cell? ⟨gp, 0, none⟩ = some (.pointer (some ⟨gd, 0, none⟩)) := (HBP.out.but hgr (fun h => h)).cell 0
    have p1 : wr.cell? ⟨gp, 1, none⟩ = some (.pointer (some ⟨gx, 0, none⟩)) := (HBP.out.but hgr (fun h => h)).cell 1
    have x0 : wr.cell? ⟨gx, 0, none⟩ = some (.slice a ns c) := (HXB.out.but hgr (fun h => h)).cell 0
    have x2 : wr.cell? ⟨gx, 2, none⟩ = some (.bool true) := (HXB.out.but hgr (fun h => h)).cell 2
    clear hgr
    by_cases hlt : k < ns
    · have hlt' : (k : Int) < (ns : Int) := by omega
      go_wp2
      go_ret
      exact ⟨rfl, HG.out.trans HGR.out⟩
    · have hlt' : ¬ ((k : Int) < (ns : Int)) := by omega
      go_wp2
      go_ret
      exact ⟨rfl, HG.out.trans HGR.out⟩
theorem alike_any {F : Nat → Prop} {w0 w : World} {gd gx n : Nat} {s0 : Dev} (h : DoTo F w0 w gd gx s0 n) (hn : n ≤ 1000) :
    Calls Try.prog 12 #[.agg #[.pointer (some ⟨gd, 0, none⟩), .pointer (some ⟨gx, 0, none⟩)]] w fun e w' => e = .returned (.bool true) ∧ Grow w w' := by
  obtain ⟨s, x, ht, ha, hb, -⟩ := h.ex
  cases hu : s.up
  · exact alike_down ht ha hb hn hu
  · exact alike_up ht ha hb hn hu
end Go.Proofs.Ytfgcbcopgikodaa
/- An argument that is a slice of numbers. -/
namespace Go.Proofs.Ytfgcbcopgikodaa
open Go.ChangeShapes Go.WideShapes Go.ChangeAt Go.RowKit Go.Deep

section
variable {H : Type} {enc : TypeId × Value → H} {P : Program} {w : World} {base : Nat} {spare : Nat → Bool} {held : Bool}
theorem view_ints {t e : TypeId} {v : Value} {d : DataW H} {ps : List MemPlace} {r : Reach} {b0 : Nat} {ts : List TypeId} {ds : List (DataW H)} {j : Nat}
    (hu : P.underlying t = some (.slice e)) (hf : P.underlying e = some (.int .i64)) (hc : P.cellsOf e = 1) (hb : P.bytesOf e = 8)
    (hval : Value.okWide P w r b0 t v) (h : DataW.Trod enc P w base spare held t v d ps) (hlt : ∀ x ∈ ps, x.block < w.heap.size)
    (hsz : (DataW.weightsEach P ts ds).all (· ≤ reachBytes) = true) (ht : ts[j]? = some t) (hd : ds[j]? = some d) : ∃ fs, IntS w v fs := by
  obtain ⟨a0, len, cap, rfl⟩ := okWide_slice hu hval
  obtain ⟨fuel, hf1⟩ := h
  rcases open_slice1 hu hc hf1 with ⟨hcs, _⟩ | ⟨a, len', cap', m, n, V, D, Pl, hcs, _, hl, hm, hmm, hx, hcell⟩
  · simp [Value.cells] at hcs
    obtain ⟨rfl, rfl, rfl⟩ := hcs
    exact ⟨[], nofun, by simp, .inl ⟨rfl, _, _, rfl⟩⟩
  · simp [Value.cells] at hcs
    obtain ⟨rfl, rfl, rfl⟩ := hcs
    simp only [Prod.mk.injEq] at hx
    obtain ⟨rfl, rfl⟩ := hx
    have hlm : len ≤ m := by rw [hmm]; split <;> omega
    have hreach : len * 8 ≤ 140737488351232 := by
      have := sized_slice hsz ht hd hu
      rw [hb] at this
      simp only [List.length_map, List.length_range, reachBytes] at this
      omega
    have hfl : ∀ i, i < len → ∃ b : Int, V i = .int .i64 b ∧ -9223372036854775808 ≤ b ∧ b ≤ 9223372036854775807 := by
      intro i hi
      obtain ⟨b, hb1, _, hw0⟩ := DataW.trod_int hf (hcell i (by omega)).2
      have h8 : IntKind.i64.min ≤ b ∧ b ≤ IntKind.i64.max := by simpa [Lit.wf, go_sem] using hw0
      have e1 : IntKind.i64.min = -9223372036854775808 := rfl
      have e2 : IntKind.i64.max = 9223372036854775807 := rfl
      simp only [List.cons.injEq, and_true] at hb1
      exact ⟨b, hb1, by omega, by omega⟩
    obtain ⟨B, hB⟩ := choose_lt (α := Int) (p := fun i b => V i = .int .i64 b ∧ -9223372036854775808 ≤ b ∧ b ≤ 9223372036854775807) hfl
    refine ⟨(List.range len).map B, ?_, by simp; omega, ?_⟩
    · intro z hz
      obtain ⟨i, hi, rfl⟩ := List.mem_map.1 hz
      exact (hB i (by simpa using hi)).2
    · by_cases h0 : len = 0
      · subst h0; exact .inl ⟨by simp, _, _, rfl⟩
      · right
        obtain ⟨b, off, spot⟩ := a
        have hspot : spot = none := by simpa [Addr.add] using World.cell?_spot (hcell 0 (by omega)).1
        subst hspot
        refine ⟨by simp; omega, b, off, cap, by simp, hlt (.cell b off) (List.mem_append_left _ (MemPlace.mem_row.2 ⟨0, by omega, by simp⟩)), ?_⟩
        intro i hi
        have hi' : i < len := by simpa using hi
        rw [← add_plain, (hcell i (by omega)).1, (hB i hi').1]
        simp [hi']
end
end Go.Proofs.Ytfgcbcopgikodaa
/- An argument that is a slice of acts. -/
namespace Go.Proofs.Ytfgcbcopgikodaa
open Go.ChangeShapes Go.WideShapes Go.ChangeAt Go.RowKit Go.Deep

section
variable {H : Type} {enc : TypeId × Value → H} {P : Program} {w : World} {base : Nat} {spare : Nat → Bool} {held : Bool}
theorem dweightsAll_mem {e : TypeId} : ∀ {l : List (DataW H)} {d : DataW H}, d ∈ l → ∀ n ∈ d.weights P e, n ∈ DataW.weightsAll P e l
  | x :: r, d, hd, n, hn => by
    simp only [DataW.weightsAll, List.mem_append]
    rcases List.mem_cons.1 hd with rfl | hd
    · exact .inl hn
    · exact .inr (dweightsAll_mem hd n hn)

theorem dview_inner {t e : TypeId} {v : Value} {d : DataW H} {ps : List MemPlace} {fuel : Nat}
    (hu : P.underlying t = some (.slice e)) (hf : P.underlying e = some (.int .u8)) (hc : P.cellsOf e = 1) (hb : P.bytesOf e = 1)
    (h : DataW.trod enc P w base spare held fuel t [v] = some (d, ps)) (hlt : ∀ x ∈ ps, x.block < w.heap.size) (hsz : ∀ n ∈ d.weights P t, n ≤ reachBytes) : ∃ zs, Bs w v zs ∧ zs.length ≤ 140737488351232 := by
  rcases open_slice1 hu hc h with ⟨hcs, _⟩ | ⟨a, len, cap, m, n, V, D, Pl, hcs, _, hl, hm, hmm, hx, hcell⟩
  · simp only [List.cons.injEq, and_true] at hcs
    subst hcs
    exact ⟨[], Bs.nil _, by simp⟩
  · simp only [List.cons.injEq, and_true] at hcs
    subst hcs
    simp only [Prod.mk.injEq] at hx
    obtain ⟨rfl, rfl⟩ := hx
    have hlm : len ≤ m := by rw [hmm]; split <;> omega
    have hreach : len * 1 ≤ 140737488351232 := by
      have := hsz ((len + (m - len)) * 1) (by simp [DataW.weights, hu, hb])
      simp only [reachBytes] at this
      omega
    have hfl : ∀ i, i < len → ∃ b : Nat, V i = .int .u8 (b : Int) ∧ b < 256 := by
      intro i hi
      obtain ⟨b, hb1, _, hw0⟩ := DataW.trod_int hf (hcell i (by omega)).2
      obtain ⟨hw, hw2⟩ : 0 ≤ b ∧ b < 256 := by
        have h8 : IntKind.u8.min ≤ b ∧ b ≤ IntKind.u8.max := by simpa [Lit.wf, go_sem] using hw0
        have e1 : IntKind.u8.min = 0 := rfl
        have e2 : IntKind.u8.max = 255 := rfl
        omega
      simp only [List.cons.injEq, and_true] at hb1
      exact ⟨b.toNat, by rw [hb1, Int.toNat_of_nonneg hw], by omega⟩
    obtain ⟨B, hB⟩ := choose_lt (α := Nat) (p := fun i b => V i = .int .u8 (b : Int) ∧ b < 256) hfl
    refine ⟨(List.range len).map B, ⟨?_, by simp; omega, ?_⟩, by simpa using hreach⟩
    · intro z hz
      obtain ⟨i, hi, rfl⟩ := List.mem_map.1 hz
      exact (hB i (by simpa using hi)).2
    · by_cases h0 : len = 0
      · subst h0; exact .inl ⟨by simp, .inr ⟨_, _, rfl⟩⟩
      · right
        obtain ⟨b, off, spot⟩ := a
        have hspot : spot = none := by simpa [Addr.add] using World.cell?_spot (hcell 0 (by omega)).1
        subst hspot
        refine ⟨by simp; omega, b, off, cap, by simp, by simpa using hl, hlt (.cell b off) (List.mem_append_left _ (MemPlace.mem_row.2 ⟨0, by omega, by simp⟩)), ?_⟩
        intro i hi
        have hi' : i < len := by simpa using hi
        rw [← add_plain, (hcell i (by omega)).1, (hB i hi').1]
        simp [hi']

theorem dview_ints {t e : TypeId} {v : Value} {d : DataW H} {ps : List MemPlace} {fuel : Nat}
    (hu : P.underlying t = some (.slice e)) (hf : P.underlying e = some (.int .i64)) (hc : P.cellsOf e = 1) (hb : P.bytesOf e = 8)
    (h : DataW.trod enc P w base spare held fuel t [v] = some (d, ps)) (hlt : ∀ x ∈ ps, x.block < w.heap.size) (hsz : ∀ n ∈ d.weights P t, n ≤ reachBytes) : ∃ fs, IntS w v fs := by
  rcases open_slice1 hu hc h with ⟨hcs, _⟩ | ⟨a, len, cap, m, n, V, D, Pl, hcs, _, hl, hm, hmm, hx, hcell⟩
  · simp only [List.cons.injEq, and_true] at hcs
    subst hcs
    exact ⟨[], nofun, by simp, .inl ⟨rfl, _, _, rfl⟩⟩
  · simp only [List.cons.injEq, and_true] at hcs
    subst hcs
    simp only [Prod.mk.injEq] at hx
    obtain ⟨rfl, rfl⟩ := hx
    have hlm : len ≤ m := by rw [hmm]; split <;> omega
    have hreach : len * 8 ≤ 140737488351232 := by
      have := hsz ((len + (m - len)) * 8) (by simp [DataW.weights, hu, hb])
      simp only [reachBytes] at this
      omega
    have hfl : ∀ i, i < len → ∃ b : Int, V i = .int .i64 b ∧ -9223372036854775808 ≤ b ∧ b ≤ 9223372036854775807 := by
      intro i hi
      obtain ⟨b, hb1, _, hw0⟩ := DataW.trod_int hf (hcell i (by omega)).2
      have h8 : IntKind.i64.min ≤ b ∧ b ≤ IntKind.i64.max := by simpa [Lit.wf, go_sem] using hw0
      have e1 : IntKind.i64.min = -9223372036854775808 := rfl
      have e2 : IntKind.i64.max = 9223372036854775807 := rfl
      simp only [List.cons.injEq, and_true] at hb1
      exact ⟨b, hb1, by omega, by omega⟩
    obtain ⟨B, hB⟩ := choose_lt (α := Int) (p := fun i b => V i = .int .i64 b ∧ -9223372036854775808 ≤ b ∧ b ≤ 9223372036854775807) hfl
    refine ⟨(List.range len).map B, ?_, by simp; omega, ?_⟩
    · intro z hz
      obtain ⟨i, hi, rfl⟩ := List.mem_map.1 hz
      exact (hB i (by simpa using hi)).2
    · by_cases h0 : len = 0
      · subst h0; exact .inl ⟨by simp, _, _, rfl⟩
      · right
        obtain ⟨b, off, spot⟩ := a
        have hspot : spot = none := by simpa [Addr.add] using World.cell?_spot (hcell 0 (by omega)).1
        subst hspot
        refine ⟨by simp; omega, b, off, cap, by simp, hlt (.cell b off) (List.mem_append_left _ (MemPlace.mem_row.2 ⟨0, by omega, by simp⟩)), ?_⟩
        intro i hi
        have hi' : i < len := by simpa using hi
        rw [← add_plain, (hcell i (by omega)).1, (hB i hi').1]
        simp [hi']
end
section
variable {H : Type} {enc : TypeId × Value → H} {w : World} {base : Nat} {spare : Nat → Bool} {held : Bool}
set_option maxRecDepth 100000 in
theorem trod_dact {m : Nat} {cs : List Value} {d : DataW H} {ps : List MemPlace} (h : DataW.trod enc Try.prog w base spare held m 35 cs = some (d, ps)) (hlt : ∀ x ∈ ps, x.block < w.heap.size) (hsz : ∀ k ∈ d.weights Try.prog 35, k ≤ reachBytes) (hl : cs.length = 5) :
    ∃ (F : DA) (ud uf : Value), cs = dcells F ud uf ∧ (-9223372036854775808 ≤ F.kind ∧ F.kind ≤ 9223372036854775807) ∧ (-9223372036854775808 ≤ F.a ∧ F.a ≤ 9223372036854775807) ∧ (-9223372036854775808 ≤ F.b ∧ F.b ≤ 9223372036854775807) ∧ Bs w ud F.dat ∧ IntS w uf F.fat := by
  obtain ⟨xs, nn, _, hx, _, hxl, hf⟩ := DataW.trod_struct Try.underlying35 h
  simp only [Prod.mk.injEq] at hx
  obtain ⟨hD, hP⟩ := hx
  match xs, hxl with
  | [x0, x1, x2, x3, x4], _ =>
    have c1 : Try.prog.cellsOf 3 = 1 := by kernel_rfl
    have cs1 : Try.prog.cellsOf 32 = 1 := by kernel_rfl
    have cs2 : Try.prog.cellsOf 33 = 1 := by kernel_rfl
    have g0 : DataW.trod enc Try.prog w base spare held nn 3 ((cs.drop 0).take (Try.prog.cellsOf 3)) = some x0 := hf 0 _ rfl
    have g1 : DataW.trod enc Try.prog w base spare held nn 3 ((cs.drop 1).take (Try.prog.cellsOf 3)) = some x1 := hf 1 _ rfl
    have g2 : DataW.trod enc Try.prog w base spare held nn 3 ((cs.drop 2).take (Try.prog.cellsOf 3)) = some x2 := hf 2 _ rfl
    have g3 : DataW.trod enc Try.prog w base spare held nn 32 ((cs.drop 3).take (Try.prog.cellsOf 32)) = some x3 := hf 3 _ rfl
    have g4 : DataW.trod enc Try.prog w base spare held nn 33 ((cs.drop 4).take (Try.prog.cellsOf 33)) = some x4 := hf 4 _ rfl
    rw [c1] at g0 g1 g2
    rw [cs1] at g3
    rw [cs2] at g4
    match cs, hl with
    | [a0, a1, a2, p, q], _ =>
      have g0' : DataW.trod enc Try.prog w base spare held nn 3 [a0] = some x0 := g0
      have g1' : DataW.trod enc Try.prog w base spare held nn 3 [a1] = some x1 := g1
      have g2' : DataW.trod enc Try.prog w base spare held nn 3 [a2] = some x2 := g2
      have g3' : DataW.trod enc Try.prog w base spare held nn 32 [p] = some (x3.1, x3.2) := g3
      have g4' : DataW.trod enc Try.prog w base spare held nn 33 [q] = some (x4.1, x4.2) := g4
      obtain ⟨z0, hz0, _, w0⟩ := DataW.trod_int Try.underlying3 g0'
      obtain ⟨z1, hz1, _, w1⟩ := DataW.trod_int Try.underlying3 g1'
      obtain ⟨z2, hz2, _, w2⟩ := DataW.trod_int Try.underlying3 g2'
      have h0 : IntKind.i64.min ≤ z0 ∧ z0 ≤ IntKind.i64.max := by simpa [Lit.wf, go_sem] using w0
      have h1 : IntKind.i64.min ≤ z1 ∧ z1 ≤ IntKind.i64.max := by simpa [Lit.wf, go_sem] using w1
      have h2 : IntKind.i64.min ≤ z2 ∧ z2 ≤ IntKind.i64.max := by simpa [Lit.wf, go_sem] using w2
      have e1 : IntKind.i64.min = -9223372036854775808 := rfl
      have e2 : IntKind.i64.max = 9223372036854775807 := rfl
      rw [e1, e2] at h0 h1 h2
      have hin : ∀ (j : Nat) (t : TypeId) (dd : DataW H), ([3, 3, 3, 32, 33] : List TypeId)[j]? = some t → ([x0.1, x1.1, x2.1, x3.1, x4.1] : List (DataW H))[j]? = some dd → ∀ k ∈ dd.weights Try.prog t, k ≤ reachBytes := fun j t dd hj hdd k hk => by
        refine hsz k ?_
        rw [hD]
        simp only [DataW.weights, Try.underlying35]
        exact DataW.weights_mem_each (j := j) hj hdd k hk
      obtain ⟨zd, hbd, -⟩ := dview_inner Try.underlying32 Try.underlying5 (by kernel_rfl) (by kernel_rfl) g3' (fun x hx => hlt x (by rw [hP]; simp [hx])) (hin 3 _ _ rfl rfl)
      obtain ⟨zf, hbf⟩ := dview_ints Try.underlying33 Try.underlying3 (by kernel_rfl) (by kernel_rfl) g4' (fun x hx => hlt x (by rw [hP]; simp [hx])) (hin 4 _ _ rfl rfl)
      simp only [List.cons.injEq, and_true] at hz0 hz1 hz2
      exact ⟨⟨z0, z1, z2, zd, zf⟩, p, q, by rw [hz0, hz1, hz2]; rfl, h0, h1, h2, hbd, hbf⟩
set_option maxRecDepth 100000 in
theorem view_dacts {v : Value} {d : DataW H} {ps : List MemPlace} {r : Reach} {b0 : Nat} {ts : List TypeId} {ds : List (DataW H)} {j : Nat}
    (hval : Value.okWide Try.prog w r b0 22 v) (h : DataW.Trod enc Try.prog w base spare held 22 v d ps) (hlt : ∀ x ∈ ps, x.block < w.heap.size)
    (hsz : (DataW.weightsEach Try.prog ts ds).all (· ≤ reachBytes) = true) (ht : ts[j]? = some 22) (hd : ds[j]? = some d) : ∃ n A, DActs w v n A := by
  have hu := Try.underlying22
  have hce : Try.prog.cellsOf 35 = 5 := by kernel_rfl
  have hbe : 1 ≤ Try.prog.bytesOf 35 := of_decide_eq_true (by kernel_rfl)
  obtain ⟨a0, len, cap, rfl⟩ := okWide_slice hu hval
  obtain ⟨fuel, hfu⟩ := h
  rcases open_slice hu hfu with ⟨hcs, _⟩ | ⟨a, len', cap', m, n, D, Pl, hcs, _, hl, hm, hmm, hx, hel⟩
  · simp [Value.cells] at hcs
    obtain ⟨rfl, rfl, rfl⟩ := hcs
    exact ⟨0, fun _ => ⟨0, 0, 0, [], []⟩, by omega, .inl ⟨rfl, _, _, rfl⟩⟩
  · simp [Value.cells] at hcs
    obtain ⟨rfl, rfl, rfl⟩ := hcs
    simp only [Prod.mk.injEq] at hx
    obtain ⟨rfl, rfl⟩ := hx
    have hlm : len ≤ m := by rw [hmm]; split <;> omega
    have hreach : len ≤ 140737488351232 := by
      have h1 := sized_slice hsz ht hd hu
      simp only [List.length_map, List.length_range, reachBytes] at h1
      have h2 : len + (m - len) ≤ (len + (m - len)) * Try.prog.bytesOf 35 := Nat.le_mul_of_pos_right _ hbe
      omega
    have hfl : ∀ i, i < len → ∃ F : DA, ∃ ud uf, (∀ c u, (dcells F ud uf)[c]? = some u → w.cell? (a.add (i * 5 + c)) = some u) ∧ (-9223372036854775808 ≤ F.kind ∧ F.kind ≤ 9223372036854775807) ∧ (-9223372036854775808 ≤ F.a ∧ F.a ≤ 9223372036854775807) ∧ (-9223372036854775808 ≤ F.b ∧ F.b ≤ 9223372036854775807) ∧ Bs w ud F.dat ∧ IntS w uf F.fat := by
      intro i hi
      obtain ⟨cs', h1, h2⟩ := hel i (by omega)
      rw [hce] at h1
      obtain ⟨_, hlen, hcell⟩ := World.cells?_some h1
      obtain ⟨F, ud, uf, hc, h3⟩ := trod_dact h2 (fun x hx => hlt x (List.mem_append_right _ (List.mem_flatMap.2 ⟨i, by simp; omega, hx⟩))) (fun k hk' => by
            have hm2 : k ∈ (DataW.slice ((List.range len).map D) ((List.range (m - len)).map fun j => D (len + j))).weights Try.prog 22 := by
              simp only [DataW.weights, hu]
              refine List.mem_cons_of_mem _ (List.mem_append_left _ (dweightsAll_mem (d := D i) ?_ k hk'))
              exact List.mem_map.2 ⟨i, by simpa using hi, rfl⟩
            have := List.all_eq_true.1 hsz _ (DataW.weights_mem_each ht hd k hm2)
            simpa using this) hlen
      refine ⟨F, ud, uf, fun c u hcu => ?_, h3⟩
      rw [← hc] at hcu
      have hlt' : c < 5 := by
        rcases Nat.lt_or_ge c 5 with h | h
        · exact h
        · rw [List.getElem?_eq_none (by omega)] at hcu; cases hcu
      have := hcell c hlt'
      rw [add_add] at this
      exact this.trans hcu
    haveI : Inhabited DA := ⟨⟨0, 0, 0, [], []⟩⟩
    obtain ⟨F, hF⟩ := choose_lt (α := DA) (p := fun i F => ∃ ud uf, (∀ c u, (dcells F ud uf)[c]? = some u → w.cell? (a.add (i * 5 + c)) = some u) ∧ (-9223372036854775808 ≤ F.kind ∧ F.kind ≤ 9223372036854775807) ∧ (-9223372036854775808 ≤ F.a ∧ F.a ≤ 9223372036854775807) ∧ (-9223372036854775808 ≤ F.b ∧ F.b ≤ 9223372036854775807) ∧ Bs w ud F.dat ∧ IntS w uf F.fat) hfl
    refine ⟨len, F, hreach, ?_⟩
    by_cases h0 : len = 0
    · subst h0; exact .inl ⟨rfl, _, _, rfl⟩
    · right
      obtain ⟨b, off, spot⟩ := a
      have hspot : spot = none := by
        obtain ⟨ud, uf, hc, _⟩ := hF 0 (by omega)
        have := World.cell?_spot (hc 0 _ rfl)
        simpa [Addr.add] using this
      subst hspot
      refine ⟨by omega, b, off, cap, rfl, hlt (.cell b off) (List.mem_append_left _ (MemPlace.mem_row.2 ⟨0, ?_, by simp⟩)), fun i hi => ?_⟩
      · rw [hce]; omega
      · obtain ⟨ud, uf, hc, h1, h2, h3, h4, h5⟩ := hF i hi
        refine ⟨h1, h2, h3, ud, uf, fun c u hcu => ?_, h4, h5⟩
        rw [Nat.add_assoc, ← add_plain]; exact hc c u hcu
end
end Go.Proofs.Ytfgcbcopgikodaa
/- What the laws of devices share: a pair in a variable, a script that is done. -/
namespace Go.Proofs.Ytfgcbcopgikodaa
open Go.RowKit

/-- The pair lies in the variable gp; k acts are done. -/
structure Law (w0 wB w : World) (gp gd gx : Nat) (F : Nat → Prop) (s0 : Dev) (k : Nat) : Prop where
  st : DoTo F wB w gd gx s0 k
  bp : Blk wB gp 28 [.pointer (some ⟨gd, 0, none⟩), .pointer (some ⟨gx, 0, none⟩)]
  fp : F gp
  fw : ∀ b, b < w0.heap.size → F b
  gr : Grow w0 wB
section
variable {w0 wB w w' : World} {gp gd gx k n : Nat} {F : Nat → Prop} {s0 : Dev}
theorem Law.then (h : Law w0 wB w gp gd gx F s0 k) (g : Grow w w') : Law w0 wB w' gp gd gx F s0 k := ⟨h.st.then g, h.bp, h.fp, h.fw, h.gr⟩
theorem Law.on (h : Law w0 wB w gp gd gx F s0 k) (g : DoTo F wB w' gd gx s0 n) : Law w0 wB w' gp gd gx F s0 n := ⟨g, h.bp, h.fp, h.fw, h.gr⟩
theorem Law.p (h : Law w0 wB w gp gd gx F s0 k) (b : But (fun b => ¬ F b) wB w') : Blk w' gp 28 [.pointer (some ⟨gd, 0, none⟩), .pointer (some ⟨gx, 0, none⟩)] := h.bp.but b (fun n => n h.fp)
theorem Law.pw (h : Law w0 wB w gp gd gx F s0 k) : Blk w gp 28 [.pointer (some ⟨gd, 0, none⟩), .pointer (some ⟨gx, 0, none⟩)] := h.p h.st.but
theorem Law.below (h : Law w0 wB w gp gd gx F s0 k) (b : But (fun b => ¬ F b) wB w') : Below w0.heap.size w0 w' :=
  (h.gr.then (S := fun b => ¬ F b) b (fun i hi n => n (h.fw i hi))).below (Nat.le_refl _) (fun _ _ h => h)
theorem Law.heap (h : Law w0 wB w gp gd gx F s0 k) (b : But (fun b => ¬ F b) wB w') {i : Nat} (hi : i < w0.heap.size) : w'.heap[i]? = w0.heap[i]? :=
  (b.block i (Nat.lt_of_lt_of_le hi h.gr.size) (fun n => n (h.fw i hi))).trans (h.gr.block i hi (fun h => h))
/-- An act of the script may be done. -/
theorem Law.inn {ud uf : Value} {A : DA} (h : Law w0 wB w gp gd gx F s0 k) (hk : k ≤ 900) (ra : -9223372036854775808 ≤ A.a ∧ A.a ≤ 9223372036854775807) (rb : -9223372036854775808 ≤ A.b ∧ A.b ≤ 9223372036854775807) (hd : Bf w0 (· < w0.heap.size) ud A.dat) (hf : IntF w0 (· < w0.heap.size) uf A.fat) (hs : DSmall A) (g : Grow w w') : DoIn F wB w' gd gx s0 k A ud uf := by
  have b := (h.st.then g).but
  have b0 : But (fun b => ¬ F b) w0 w' := (h.gr.mono (fun _ _ h => h.elim)).trans b
  refine ⟨h.st.then g, hk, ra, rb, ?_, ?_, hs⟩
  · have h1 := hd.but b0 (fun j hj n => n (h.fw j hj))
    exact ⟨h1.1, fun h0 j hj => h.fw j (h1.2 h0 j hj)⟩
  · have h1 := hf.but b0 (fun j hj n => n (h.fw j hj))
    exact ⟨h1.1, fun h0 j hj => h.fw j (h1.2 h0 j hj)⟩
/-- The pair begun, and laid into its variable. -/
theorem Tw.law {w2 w3 : World} {N : Nat} (h : Tw w0 w2 gd gx (Dev.fresh N) (Rdv.new N)) (g : Grow w2 w3) (hb : Blk w3 w2.heap.size 28 [.pointer (some ⟨gd, 0, none⟩), .pointer (some ⟨gx, 0, none⟩)]) :
    ∃ F, Law w0 w3 w3 w2.heap.size gd gx F (Dev.fresh N) 0 := by
  have ht := h.tf.add g
  refine ⟨_, ⟨⟨_, _, ht, Agr.fresh N, ⟨Nat.le_refl _, Nat.le_refl _, Nat.zero_le _, Nat.zero_le _, Nat.zero_le _⟩, Kp.refl _⟩, hb, .inr ⟨Nat.le_refl _, hb.lt⟩, fun b hb => .inl hb, h.grow.trans g⟩⟩
theorem Law.told (h : Law w0 wB w gp gd gx F s0 k) (hk : k ≤ 1000) : ∃ L vx M, k ≤ 1000 ∧ (∀ w', Grow w w' → Calls Try.prog 14 #[.pointer (some ⟨gd, 0, none⟩)] w' fun e w'' => ∃ v, e = .returned v ∧ Grow w' w'' ∧ ∃ L', L'.map (·.1) = L ∧ TlRow w'' w'.heap.size v L') ∧
    w.cell? ⟨gx, 6, none⟩ = some vx ∧ TwR w vx M ∧ M.map (·.1) = L ∧ L.length ≤ 1000 := by
  obtain ⟨s, x, ht, ha, hb, -⟩ := h.st.ex
  obtain ⟨vx, M, h1, h2, h3⟩ := ht.xwr
  refine ⟨s.wr, vx, M, hk, fun w' g => ?_, h1, h2, by rw [h3, ha.wr], by have := hb.wr; omega⟩
  obtain ⟨own, hd, -, -⟩ := (ht.then g).dev
  refine (written_any hd (by have := hb.wr; omega)).mono ?_
  rintro e w'' ⟨⟨v, L', rfl, h4, h5⟩, h6⟩
  exact ⟨v, rfl, h6, L', h5, h4⟩
end
theorem TlRow.tw {w : World} {base : Nat} {v : Value} {L : List TlE} (h : TlRow w base v L) : TwR w v L := ⟨h.own, fun e he => (h.el e he).bs⟩
/-- A row that tells these writes. -/
def TwOf (w : World) (v : Value) (L : List WrE) : Prop := ∃ L' : List TlE, L'.map (·.1) = L ∧ TwR w v L'
theorem TwR.grow {w w' : World} {v : Value} {L : List TlE} (h : TwR w v L) (k : Grow w w') : TwR w' v L := h.but k (fun _ h => h)
theorem TwOf.grow {w w' : World} {v : Value} {L : List WrE} (h : TwOf w v L) (k : Grow w w') : TwOf w' v L := h.imp (fun _ h => ⟨h.1, h.2.grow k⟩)
end Go.Proofs.Ytfgcbcopgikodaa
