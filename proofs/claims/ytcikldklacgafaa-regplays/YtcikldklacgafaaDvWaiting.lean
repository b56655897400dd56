/- The device's waiting and Waits; how much of a write is spared. -/
import Derived.Test.YtcikldklacgafaaDvWaits
namespace Go.Proofs.Ytcikldklacgafaa
open Go.RowKit

/-- What waiting tells. -/
structure WaitIs (w : World) (l : List Nat) (e : Ending) (w' : World) : Prop where
  ex : ∃ v, e = .returned v ∧ NumS w' v l ∧ ∀ k, v.ownBlock = some k → w.heap.size ≤ k
  grow : Grow w w'
section
variable {w : World} {own : Owner} {gd : Nat} {s : Dev}
theorem wt_len (h : s.ok) : s.wt.length ≤ s.wr.length := rising_len s.wt 0 _ h.wt (fun i hi => ⟨Nat.zero_le _, h.wl i hi⟩)
set_option maxRecDepth 100000 in
set_option maxHeartbeats 4000000 in
theorem waiting_any (h : Dv w own gd s) (hm : s.wr.length ≤ 100000) :
    Calls Try.prog 28 #[.pointer (some ⟨gd, 0, none⟩)] w (WaitIs w s.wt) := by
  obtain ⟨gs, vw, bm, vi, h⟩ := h
  have c2 : w.cell? ⟨gd, 2, none⟩ = some (.map (some bm)) := h.blk.cell 2
  obtain ⟨M, hM, hM2, hM3⟩ := h.map.ex
  obtain ⟨w2, hrg, hg2, hsz2, hR2⟩ := hM.range Try.underlying51
  obtain ⟨r, hr⟩ : ∃ r, r = w.heap.size := ⟨_, rfl⟩
  rw [← hr] at hrg hR2
  have HRG := Hid.mk' hrg
  have HRW := Hid.mk' hr
  have HALL := Hid.mk' (rows_all hM hM2 hM3)
  have HM2 := Hid.mk' hM2
  have HR2 := Hid.mk' hR2
  have HG2 := Hid.mk' hg2
  have HOK := Hid.mk' h.ok
  have HWL : Hid (s.wt.length ≤ 100000) := Nat.le_trans (wt_len h.ok) hm
  have HBM : Hid (bm < w.heap.size) := hM.lt
  clear h hM hM2 hM3 hrg hg2 hsz2 hR2 hr hm
  go_enter Try.func28, Try.ntmps28
  go_wp2_with (first
    | (refine wpList_run rfl (exec_range rfl rfl HRG.out) ?_)
    | fail)
  clear c2
  refine act_down (fun K hK => ?_)
  go_simp
  refine hK _ ?_
  clear hK K
  go_loopw [3] (fun v3 wr => ∃ (L : List (Value × Value)) (A : List Nat), Rg wr r bm M L ∧ wr.ownsRow 0 3 1 v3 A.length (ints A) ∧ (∀ k, v3.ownBlock = some k → r < k ∧ k < wr.heap.size) ∧ (A ++ rowsOf s.wr s.wt L).Perm s.wt ∧ Grow w wr) (fun _ wr => leftN wr r bm)
  case atStart => exact ⟨M, [], HR2.out, World.ownsRow_nil _ _ _ _, (fun k hk => by cases hk), HALL.out, HG2.out⟩
  case round =>
    clear HR2 HG2 HRG HALL
    rename_i v3
    obtain ⟨L, A, hR, hA, hAk, hP, hG⟩ := hrel
    have HAL : Hid (A.length ≤ 100000) := by
      have := hP.length_eq
      rw [List.length_append] at this
      have := HWL.out
      show A.length ≤ 100000
      omega
    rcases hR.next (P := Try.prog) 0 with ⟨rfl, hnx⟩ | ⟨p, L', w3, hp, hperm, hnx, hb3, hsz3, hR3, hent⟩
    · have HNX := Hid.mk' hnx
      have hP' : A.Perm s.wt := by
        have : rowsOf s.wr s.wt [] = [] := rfl
        rw [this, List.append_nil] at hP; exact hP
      have HSO := Hid.mk' (sort_ints hA hP' HOK.out.wt HAL.out)
      have HAK := Hid.mk' hAk
      have HG := Hid.mk' hG
      clear hnx hR hA hAk hP hG hP'
      go_wp2_with (first
        | (refine wpList_run rfl (exec_next rfl rfl rfl HNX.out) ?_)
        | fail)
      refine Calls.mono HSO.out ?_
      rintro e w4 ⟨rfl, hn, hb⟩
      have HN := Hid.mk' hn
      have HG4 : Hid (Grow w w4) := HG.out.then hb (fun i hi e => absurd (HAK.out i e).1 (by have := HRW.out; omega))
      clear hn hb HSO
      go_wp2
      go_ret
      exact ⟨⟨_, rfl, HN.out, fun k hk => by have := (HAK.out k hk).1; have := HRW.out; omega⟩, HG4.out⟩
    · have HNX := Hid.mk' hnx
      have HENT := Hid.mk' hent
      obtain ⟨pk, pv⟩ := p
      obtain ⟨b, e1, hb65, hwb, hrow⟩ := HM2.out _ hp
      simp only at e1 hrow
      subst e1
      have hstep := rows_step hP hperm
      have hkb : keyN (.int .i64 (b : Int)) = b := by simp [keyN]
      rw [hkb] at hstep
      have hG3 : Grow w w3 := hG.then hb3 (fun i hi e => absurd e (by have := HRW.out; omega))
      have hrow3 := hrow.but hG3 (fun _ _ h => h) (fun _ h => h)
      obtain ⟨ap, cp, rfl, hsh⟩ := hrow3.shape
      obtain ⟨gp, rfl, hgp, hgpl, hcp⟩ := hsh (List.length_pos_iff.2 hwb)
      have HA3 := Hid.mk' (ownsRow_but hA hb3 (fun j hj e => by have := (hAk j hj).1; omega))
      have HAK := Hid.mk' hAk
      have HR3 := Hid.mk' hR3
      have HG3 := Hid.mk' hG3
      have HST := Hid.mk' hstep
      have HSZ := Hid.mk' hsz3
      have HCP : Hid (∀ j u, (ints (wb s.wr s.wt b))[j]? = some u → w3.cell? ((⟨gp, 0, none⟩ : Addr).add j) = some u) := fun j u hj => by
        rw [addr_add, Nat.zero_add]; exact hcp j u hj
      have HLF : Hid (leftN wr r bm = L'.length + 1) := by
        show _ = _
        rw [hR.left, hperm.length_eq, List.length_cons]
      obtain ⟨m, hme⟩ : ∃ m, m = (wb s.wr s.wt b).length := ⟨_, rfl⟩
      have HME := Hid.mk' hme
      have HMB : Hid (A.length + m ≤ 100000) := by
        show _ ≤ _
        have h1 := hstep.length_eq
        rw [List.length_append, List.length_append] at h1
        have := HWL.out
        omega
      rw [← hme] at HENT HNX
      clear hnx hent hR hA hAk hP hG hp hperm hb3 hsz3 hR3 hrow hrow3 hsh hgp hgpl hcp hwb hstep hkb hG3 hb65 hme
      obtain ⟨al, hal⟩ : ∃ al, al = A.length := ⟨_, rfl⟩
      have HALE := Hid.mk' hal
      rw [← hal] at HA3 HMB
      clear hal
      go_wp2_with (first
        | (refine wpList_run rfl (exec_next rfl rfl rfl HNX.out) ?_)
        | (refine wpList_run rfl (exec_entry rfl rfl HENT.out) ?_)
        | (refine wpList_some rfl (exec_append Try.underlying58 infI rfl (by decide) rfl rfl HA3.out rfl (by rw [ints_len, HME.out, Nat.mul_one]) HCP.out (ints_one _) (by have := HMB.out; omega) (by decide)) ?_; intro v4 w4 hap)
        | fail)
      refine ⟨⟨L', A ++ wb s.wr s.wt b, ?_, ?_, ?_, HST.out, ?_⟩, ?_⟩
      · exact HR3.out.but hap.but (fun e => by have := (HAK.out r e).1; omega) (fun e => by have := (HAK.out bm e).1; have := HBM.out; have := HRW.out; omega)
      · have := hap.own
        rw [HALE.out, HME.out] at this
        rw [List.length_append, show ints (A ++ wb s.wr s.wt b) = ints A ++ ints (wb s.wr s.wt b) by simp [ints]]
        exact this
      · intro k hk
        refine ⟨?_, hap.lt k hk⟩
        rcases hap.at' with e | e
        · rw [e] at hk; exact (HAK.out k hk).1
        · rw [e] at hk
          cases hk
          have := HR3.out.lt
          omega
      · exact HG3.out.then hap.but (fun i hi e => absurd (HAK.out i e).1 (by have := HRW.out; omega))
      · have h1 := (HR3.out.but hap.but (fun e => by have := (HAK.out r e).1; omega) (fun e => by have := (HAK.out bm e).1; have := HBM.out; have := HRW.out; omega)).left
        rw [h1, HLF.out]; omega
end
end Go.Proofs.Ytcikldklacgafaa
