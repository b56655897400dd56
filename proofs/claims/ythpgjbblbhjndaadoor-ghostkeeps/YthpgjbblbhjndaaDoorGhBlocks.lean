/- ghost: Blocks. -/
import Derived.Test.YthpgjbblbhjndaaDoorGhOpnd
namespace Go.Proofs.YthpgjbblbhjndaaDoor
open Go.RowKit

/-- A new row of new slices, no two of which share memory. -/
structure NewRow (w : World) (base : Nat) (v : Value) (L : List BE) : Prop where
  own : w.ownsRow base 31 1 v L.length (L.map (·.1))
  el : ∀ e ∈ L, Ow w base e.1 e.2
  dif : L.Pairwise (fun a b => ∀ k, a.1.ownBlock = some k → b.1.ownBlock ≠ some k)
  row : ∀ e ∈ L, ∀ k, v.ownBlock = some k → e.1.ownBlock ≠ some k
theorem NewRow.but {R : Nat → Prop} {w w' : World} {base : Nat} {v : Value} {L : List BE} (h : NewRow w base v L) (k : But R w w') (hr : ∀ j, base ≤ j → j < w.heap.size → ¬ R j) : NewRow w' base v L :=
  ⟨ownsRow_but h.own k (fun j hj => hr j (h.own.lt j hj).1 (h.own.lt j hj).2), fun e he => (h.el e he).but k (fun j hj _ => hr j ((h.el e he).ge j hj).1 ((h.el e he).ge j hj).2), h.dif, h.row⟩
theorem NewRow.nil (w : World) (base : Nat) : NewRow w base (.slice none 0 0) [] := ⟨World.ownsRow_nil _ _ _ _, fun _ he => absurd he List.not_mem_nil, .nil, fun _ he => absurd he List.not_mem_nil⟩
set_option maxRecDepth 100000 in
set_option maxHeartbeats 8000000 in
theorem blocks_any {w : World} {own : Owner} {gl : Nat} {P : List Pr} {S O : List Tup} (h : Lg w own gl P S O) (hsz : Sized S) (hns : S.length ≤ 1000000) :
    Calls Tryd.prog 21 #[.pointer (some ⟨gl, 0, none⟩)] w fun e w' => Grow w w' ∧ ∃ v L, e = .returned v ∧ NewRow w' w.heap.size v L ∧ L.map (·.2) = S.map (·.2.2.2) := by
  obtain ⟨vi, vc, vm, vt, vb, vq, h⟩ := h
  obtain ⟨L, hL, hLm⟩ := h.blo.ex
  have hLS : L.length = S.length := by have := congrArg List.length hLm; simpa using this
  obtain ⟨ao, cap, hve, hrow⟩ := hL.row.shape
  have hszL : ∀ e ∈ L, e.2.length ≤ 140737488355328 := fun e he => by
    have h1 : e.2 ∈ L.map (·.2) := List.mem_map.2 ⟨e, he, rfl⟩
    rw [hLm] at h1
    obtain ⟨t, ht, e2⟩ := List.mem_map.1 h1
    rw [← e2]
    exact (hsz t ht).2
  have HAT : Hid (∀ w', Grow w w' → ∀ i e, L[i]? = some e → ∃ g, ao = some ⟨g, 0, none⟩ ∧ w'.cell? ⟨g, i, none⟩ = some e.1 ∧ Bs w' e.1 e.2 ∧ e.2.length ≤ 140737488355328) := fun w' hw i e hi => by
    have hlt : i < L.length := (List.getElem?_eq_some_iff.1 hi).1
    obtain ⟨g, rfl, _, hg, hc⟩ := hrow (by omega)
    have he := List.mem_of_getElem? hi
    refine ⟨g, rfl, (World.cell?_of_block (hw.block g hg (fun h => h))).trans (hc i e.1 (by simp [hi])), ((hL.el e he).then hw).1, hszL e he⟩
  have HB := Hid.mk' h.blk
  obtain ⟨n, hn⟩ : ∃ n, n = L.length := ⟨_, rfl⟩
  rw [← hn] at hve
  subst hve
  have c5 : w.cell? ⟨gl, 5, none⟩ = some (.slice ao n cap) := h.blk.cell 5
  have HN := Hid.mk' hn
  have hnb : n ≤ 1000000 := by omega
  have HLM := Hid.mk' hLm
  obtain ⟨i0, hi, hz0, hz1, hz2⟩ := info_parts infS
  clear h hL hLm hLS hrow hszL hsz hns hn
  go_enter Tryd.func21, Tryd.ntmps21
  go_wp2
  go_loopw [3, 13] (fun xv iv wr => ∃ (k : Nat) (v : Value), k ≤ n ∧ iv = .int .i64 k ∧ v = xv ∧ Grow w wr ∧ ∃ M : List BE, M.map (·.2) = (L.map (·.2)).take k ∧ NewRow wr w.heap.size v M) (fun _ iv _ => n - (intOf iv).toNat)
  case atStart => exact ⟨0, _, by omega, rfl, rfl, But.refl _ w, [], rfl, NewRow.nil _ _⟩
  case round =>
    obtain ⟨k, v, hk, rfl, hxv, hgr, M, hM, hnr⟩ := hrel
    subst hxv
    have HGR := Hid.mk' hgr
    have HM := Hid.mk' hM
    have HNR := Hid.mk' hnr
    have HVLT : Hid (∀ j, v.ownBlock = some j → j < wr.heap.size) := fun j hj => (hnr.own.lt j hj).2
    have HMLT : Hid (∀ e ∈ M, ∀ j, e.1.ownBlock = some j → j < wr.heap.size) := fun e he j hj => ((hnr.el e he).ge j hj).2
    clear hgr hM hnr
    by_cases hlt : k < n
    · have hki : (k : Int) < (n : Int) := by omega
      obtain ⟨e0, he0⟩ : ∃ e0, L[k]? = some e0 := ⟨_, List.getElem?_eq_getElem (by rw [← HN.out]; exact hlt)⟩
      obtain ⟨g, hao, hcell, hbs, hle⟩ := HAT.out wr HGR.out k e0 he0
      subst hao
      have HE0 := Hid.mk' he0
      have HCL := Hid.mk' (clone_any hbs hle)
      clear he0 hbs hle
      go_wp2_with fail
      refine Calls.mono HCL.out ?_
      rintro e W1 ⟨v', rfl, ho, hbl⟩
      have HG1 : Hid (Grow wr W1) := But.of hbl
      have HO := Hid.mk' ho
      obtain ⟨a1, n1, c1, hve⟩ := ho.bs.sl
      have HNR1 := Hid.mk' (HNR.out.but HG1.out (fun _ _ _ h => h))
      have HOA := Hid.mk' ((ownsRow_grow HNR1.out.own ((But.refl _ W1).alloc (.cells #[v'] 31))))
      have hcn : ∀ j u, [v'][j]? = some u → (W1.alloc (.cells #[v'] 31)).cell? ((⟨W1.heap.size, 0, none⟩ : Addr).add j) = some u := cell_one_new W1 v' _
      have HCN := Hid.mk' hcn
      have HML : Hid (M.length = k) := by show _ = _; have h9 := congrArg List.length HM.out; simp at h9; have := HN.out; omega
      subst hve
      clear hcell hbl ho hcn HCL HNR
      go_wp2_with (at_builtin; refine wpList_append_own_at _ rfl _ _ 54 rfl w.heap.size 31 i0 (.slice none 0 0) 1 24 Tryd.underlying54 hi hz0 hz1 hz2 rfl (by decide) _ M.length _ rfl HOA.out ⟨W1.heap.size, 0, none⟩ 1 1 [.slice a1 n1 c1] rfl rfl HCN.out (by intro u hu; rw [show u = .slice a1 n1 c1 by simpa using hu]; rfl) (by unfold maxLen; have := HML.out; omega) (by have := HML.out; omega) (by have := HGR.out.size; have := HG1.out.size; simp; omega) ?_; intro v2 W2 hown hgrow _ hat)
      generalize Value.slice a1 n1 c1 = v' at *
      have hsz1 := HGR.out.size
      have hsz2 := HG1.out.size
      obtain ⟨W1b, hW1b⟩ : ∃ W, W = W1.alloc (.cells #[v'] 31) := ⟨_, rfl⟩
      rw [← hW1b] at hgrow hat
      have hgb : Grow W1 W1b := by rw [hW1b]; exact (But.refl _ W1).alloc _
      have hszb : W1b.heap.size = W1.heap.size + 1 := by rw [hW1b]; simp
      have hk2 : But (fun b => v.ownBlock = some b) W1b W2 := ⟨hgrow.os, hgrow.tape, hgrow.output, hgrow.size, fun j hj hne => hgrow.block j hj (fun e => hne e.symm)⟩
      have hvge : ∀ j, v.ownBlock = some j → w.heap.size ≤ j ∧ j < W1.heap.size := fun j hj => HNR1.out.own.lt j hj
      have hvlt := HVLT.out
      refine ⟨⟨k + 1, v2, by omega, by go_num, rfl, (HGR.out.trans (HG1.out.trans hgb)).then hk2 (fun j hj e => by have := (hvge j e).1; omega), M ++ [(v', e0.2)], ?_, ?_⟩, by simp [intOf]; omega⟩
      · rw [List.map_append, HM.out, List.take_add_one]
        have : (L.map (·.2))[k]? = some e0.2 := by simp [HE0.out]
        rw [this]; rfl
      · refine ⟨by rw [List.length_append, List.length_singleton, List.map_append]; exact hown, fun e he => ?_, ?_, fun e he j hj => ?_⟩
        · rcases List.mem_append.1 he with he | he
          · exact ((HNR1.out.el e he).but hgb (fun _ _ _ h => h)).but hk2 (fun j hj _ e9 => HNR1.out.row e he j e9 hj)
          · rw [show e = (v', e0.2) by simpa using he]
            refine ((HO.out.but hgb (fun _ _ _ h => h)).but hk2 (fun j hj _ e9 => ?_)).mono hsz1
            have h1 := (HO.out.ge j hj).1
            have h2 := hvlt j e9
            omega
        · refine List.pairwise_append.2 ⟨HNR1.out.dif, List.pairwise_singleton _ _, fun a ha b hb j hj => ?_⟩
          rw [show b = (v', e0.2) by simpa using hb]
          intro hj2
          have h1 := (HO.out.ge j hj2).1
          have h2 := HMLT.out a ha j hj
          omega
        · rcases hat with hat | hat
          · rw [hat] at hj
            rcases List.mem_append.1 he with he | he
            · exact HNR1.out.row e he j hj
            · rw [show e = (v', e0.2) by simpa using he]
              intro hj2
              have h1 := (HO.out.ge j hj2).1
              have h2 := hvlt j hj
              omega
          · rw [hat] at hj
            cases hj
            intro hj2
            rcases List.mem_append.1 he with he | he
            · have h2 := HMLT.out e he _ hj2
              omega
            · rw [show e = (v', e0.2) by simpa using he] at hj2
              have h1 := (HO.out.ge _ hj2).2
              omega
    · obtain rfl : k = n := by omega
      go_wp2
      go_ret
      refine ⟨HGR.out, v, rfl, M, HNR.out, ?_⟩
      rw [HM.out, ← HLM.out]
      exact List.take_of_length_le (by simp [HN.out])
end Go.Proofs.YthpgjbblbhjndaaDoor
