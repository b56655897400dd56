/- GhostClashes: the walk. -/
import Derived.Test.YthpgjbblbhjndaaDoorGhTopA
namespace Go.Proofs.YthpgjbblbhjndaaDoor
open Go.RowKit

theorem GActs.but {w w' : World} {v : Value} {n : Nat} {A : Nat → GA} (h : GActs w v n A) (hg : Grow w w') : GActs w' v n A := by
  refine ⟨h.1, ?_⟩
  rcases h.2 with h | ⟨h0, b, off, cap, e, hb, hc⟩
  · exact .inl h
  · exact .inr ⟨h0, b, off, cap, e, Nat.lt_of_lt_of_le hb hg.size, fun i hi => (hc i hi).but hb hg⟩
theorem map_getD {α β : Type} (f : α → β) (L : List α) (i : Nat) (e : α) (d : β) (h : L[i]? = some e) : (L.map f).getD i d = f e := by
  simp [List.getD, h]
set_option maxRecDepth 100000 in
set_option maxHeartbeats 8000000 in
theorem ghostClashes_walk (v0 : Value) (n : Nat) (A : Nat → GA) (w : World) (hk : Kw w) (hh : Hw w) (h0 : GActs w v0 n A) :
    Calls Tryd.prog 3 #[v0] w fun e w' => e = .returned (.bool true) ∧ Below w.heap.size w w' := by
  have HGR := Hid.mk' (great_any h0)
  have HPY : Hid ((∀ i, i < n → i < 300 → GSmall (A i)) → ∀ w1, Grow w w1 → Calls Tryd.prog 11 #[v0] w1 (PlayTo w1)) := fun hs w1 hg => played_any (hk.but hg (fun h => h)) (hh.but hg (fun h => h)) (h0.but hg) hs
  clear h0 hk hh
  go_enter Tryd.func3, Tryd.ntmps3
  go_wp2_with fail
  refine Calls.mono HGR.out ?_
  rintro e w1 ⟨bb, rfl, hb1⟩
  have HG1 := Hid.mk' hb1.grow
  cases bb with
  | true =>
    clear hb1 HGR HPY
    go_wp2_with fail
    refine Calls.mono (awake_any w1) ?_
    rintro e w2 ⟨rfl, hg2⟩
    go_wp2
    go_ret
    exact ⟨rfl, (HG1.out.trans hg2).below (Nat.le_refl _) (fun _ _ h => h)⟩
  | false =>
    have HPL := Hid.mk' (HPY.out (hb1.small rfl) w1 hb1.grow)
    clear hb1 HGR HPY
    go_wp2_with fail
    refine Calls.mono HPL.out ?_
    rintro e w2 ⟨gl, gx, rfl, hpl⟩
    obtain ⟨own, ro, vp, vs, vo, LP, LS, LO, hT, ⟨hlen, -, -⟩, hsP, -, -⟩ := hpl.ex
    have HT := Hid.mk' hT
    have HSP := Hid.mk' hsP
    have HLEN := Hid.mk' hlen
    have HRC := Hid.mk' (rclash_any hT.ref.blk hT.ref.prs (by omega))
    clear hpl hT hsP hlen HPL
    go_wp2_with fail
    refine Calls.mono HRC.out ?_
    rintro e w3 ⟨htold, hg3⟩
    have HLC := Hid.mk' (clash_any (HT.out.then hg3).log.lg (fun p hp => by
      obtain ⟨e, he, rfl⟩ := List.mem_map.1 hp
      have := HSP.out e he; omega))
    have HG3 := Hid.mk' (HG1.out.trans (HT.out.then hg3).log.grow)
    have HT3 := Hid.mk' (HT.out.then hg3)
    clear hg3 HRC HG1 HT
    rcases htold with ⟨rfl, hF⟩ | ⟨i, j, rfl, hF⟩
    · have HF := Hid.mk' hF
      clear hF
      go_wp2_with fail
      refine Calls.mono HLC.out ?_
      rintro e w4 ⟨hg4, ⟨rfl, -⟩ | ⟨i, j, va, vb, rfl, hF2, -, -⟩⟩
      · have HG4 := Hid.mk' (HG3.out.trans hg4)
        clear hg4 HLC
        unfold noClash
        go_wp2_with fail
        refine Calls.mono (awake_any w4) ?_
        rintro e w5 ⟨rfl, hg5⟩
        go_wp2
        go_ret
        exact ⟨rfl, (HG4.out.trans hg5).below (Nat.le_refl _) (fun _ _ h => h)⟩
      · have hf := HF.out
        rw [show LP.length = (LP.map (·.1)).length by simp] at hf
        cases hf.uniq hF2
    · have HF := Hid.mk' hF
      clear hF
      go_wp2_with fail
      refine Calls.mono HLC.out ?_
      rintro e w4 ⟨hg4, ⟨rfl, hF2⟩ | ⟨i2, j2, va, vb, rfl, hF2, hoa, hob⟩⟩
      · have hf := HF.out
        rw [show LP.length = (LP.map (·.1)).length by simp] at hf
        cases hf.uniq hF2
      · have hf := HF.out
        rw [show LP.length = (LP.map (·.1)).length by simp] at hf
        cases hf.uniq hF2
        have hil := HF.out.1
        have hjl := HF.out.2.1
        obtain ⟨ei, hei⟩ : ∃ e, LP[i]? = some e := ⟨_, List.getElem?_eq_getElem (by omega)⟩
        obtain ⟨ej, hej⟩ : ∃ e, LP[j]? = some e := ⟨_, List.getElem?_eq_getElem (by omega)⟩
        rw [map_getD _ _ _ _ _ hei] at hoa
        rw [map_getD _ _ _ _ _ hej] at hob
        obtain ⟨aa, na, ca, rfl⟩ := hoa.bs.sl
        obtain ⟨ab, nb, cb, rfl⟩ := hob.bs.sl
        obtain ⟨ao, cap, rfl, hat⟩ := HT3.out.ref.prs.at hg4
        obtain ⟨g, rfl, hbi, -, hci⟩ := hat i ei hei
        obtain ⟨g', e', hbj, -, hcj⟩ := hat j ej hej
        cases e'
        have c0 : w4.cell? ⟨gx, 0, none⟩ = some (.slice (some ⟨g, 0, none⟩) LP.length cap) := ((HT3.out.then hg4).ref.blk).cell 0
        have ci : w4.cell? ⟨g, i * 33, none⟩ = some ei.2 := by have := hci 0 _ rfl; rwa [addr_add] at this
        have cj : w4.cell? ⟨g, j * 33, none⟩ = some ej.2 := by have := hcj 0 _ rfl; rwa [addr_add] at this
        obtain ⟨n3, hn3⟩ : ∃ m, m = LP.length := ⟨_, rfl⟩
        rw [← hn3] at c0
        have hi1 : (i : Int) < (n3 : Int) := by omega
        have hj1 : (j : Int) < (n3 : Int) := by omega
        have hi0 : (0 : Int) ≤ (i : Int) := by omega
        have HSA := Hid.mk' (same_any hoa.bs hbi)
        have HSB : Hid (∀ w5, Grow w4 w5 → Calls Tryd.prog 14 #[.slice ab nb cb, ej.2] w5 fun e w' => e = .returned (.bool (decide (ej.1.1 = ej.1.1))) ∧ ∃ d, w' = w5.drewN d) := fun w5 h5 => same_any (hob.bs.but h5 (fun _ _ _ h => h)) (hbj.but h5 (fun _ _ _ h => h))
        have HG4 := Hid.mk' (HG3.out.trans hg4)
        obtain ⟨ui, hui⟩ : ∃ u, u = ei.2 := ⟨_, rfl⟩
        obtain ⟨uj, huj⟩ : ∃ u, u = ej.2 := ⟨_, rfl⟩
        rw [← hui] at ci HSA
        rw [← huj] at cj HSB
        simp only [decide_true] at HSA HSB
        clear hat hci hcj hoa hob hbi hbj HLC hF2 hf hei hej hui huj hn3 hil hjl hg4 HT3 HF
        go_wp2_with fail
        refine Calls.mono HSA.out ?_
        rintro e w5 ⟨rfl, d, rfl⟩
        have HSB2 := Hid.mk' (HSB.out (w4.drewN d) (But.refl _ w4).drewN)
        clear HSB HSA
        go_wp2_with fail
        refine Calls.mono HSB2.out ?_
        rintro e w5 ⟨rfl, d2, rfl⟩
        clear HSB2
        have HG5 := Hid.mk' (HG4.out.trans ((But.refl _ w4).drewN (n := d + d2)))
        go_wp2_with fail
        refine Calls.mono (awake_any _) ?_
        rintro e w6 ⟨rfl, hg6⟩
        go_wp2
        go_ret
        exact ⟨rfl, (HG5.out.trans hg6).below (Nat.le_refl _) (fun _ _ h => h)⟩
end Go.Proofs.YthpgjbblbhjndaaDoor
