/- The program's spill slots: the least free one. -/
import Derived.Test.YtehajgfjdmhdpaaSpMem
namespace Go.Proofs.Ytehajgfjdmhdpaa
open Go.RowKit Go.Maps

section
variable {w w' : World}
set_option maxRecDepth 100000 in
set_option maxHeartbeats 1000000 in
/-- slices.Index of false among n cells: the first, if there is one. -/
theorem indexb_some {g n cap p : Nat} (hn : n ≤ 256) (hp : p < n) (h0 : w.cell? ⟨g, p, none⟩ = some (.bool false)) (h1 : ∀ j, j < p → w.cell? ⟨g, j, none⟩ = some (.bool true)) : Calls Try.prog 22 #[.slice (some ⟨g, 0, none⟩) n cap, .bool false] w fun e w' => e = .returned (.int .i64 (p : Int)) ∧ w' = w := by
  have hnb : (n : Int) ≤ 9223372036854775807 := by omega
  have H0 := Hid.mk' h0
  have H1 := Hid.mk' h1
  have HP := Hid.mk' hp
  clear h0 h1 hn hp
  go_enter Try.func22, Try.ntmps22
  go_wp2
  go_loopw [5, 8] (fun _ iv wr => ∃ i : Nat, i ≤ p ∧ iv = .int .i64 i ∧ wr = w) (fun _ iv _ => n - (intOf iv).toNat)
  case atStart => exact ⟨0, Nat.zero_le _, rfl, rfl⟩
  case round =>
    obtain ⟨i, hip, rfl, rfl⟩ := hrel
    have hin : i < n := by have := HP.out; omega
    have hini : (i : Int) < (n : Int) := by omega
    by_cases hi : i = p
    · subst hi
      have c1 := H0.out
      go_wp2
      go_ret
      exact ⟨rfl, rfl⟩
    · have c1 := H1.out i (by omega)
      go_wp2
      exact ⟨⟨i + 1, by omega, by go_num, (by first | rfl | trivial)⟩, by simp [intOf]; omega⟩
set_option maxRecDepth 100000 in
set_option maxHeartbeats 1000000 in
theorem indexb_none {g n cap : Nat} (hn : n ≤ 256) (h1 : ∀ j, j < n → w.cell? ⟨g, j, none⟩ = some (.bool true)) : Calls Try.prog 22 #[.slice (some ⟨g, 0, none⟩) n cap, .bool false] w fun e w' => e = .returned (.int .i64 (-1)) ∧ w' = w := by
  have hnb : (n : Int) ≤ 9223372036854775807 := by omega
  have H1 := Hid.mk' h1
  clear h1 hn
  go_enter Try.func22, Try.ntmps22
  go_wp2
  go_loopw [5, 8] (fun _ iv wr => ∃ i : Nat, i ≤ n ∧ iv = .int .i64 i ∧ wr = w) (fun _ iv _ => n - (intOf iv).toNat)
  case atStart => exact ⟨0, Nat.zero_le _, rfl, rfl⟩
  case round =>
    obtain ⟨i, hip, rfl, rfl⟩ := hrel
    by_cases hi : i < n
    · have hini : (i : Int) < (n : Int) := by omega
      have c1 := H1.out i (by omega)
      go_wp2
      exact ⟨⟨i + 1, by omega, by go_num, (by first | rfl | trivial)⟩, by simp [intOf]; omega⟩
    · have hini : ¬ ((i : Int) < (n : Int)) := by omega
      go_wp2
      go_ret
      exact ⟨rfl, rfl⟩
end
/-- Marks of the slots on a list. -/
def marks (D : List (Int × Nat × En)) : List Value := (List.range 256).map fun i => .bool (D.any fun e => e.2.1 == i)
theorem marks_len (D : List (Int × Nat × En)) : (marks D).length = 256 := by unfold marks; rw [List.length_map, List.length_range]
theorem marks_at (D : List (Int × Nat × En)) {i : Nat} (h : i < 256) : (marks D)[i]? = some (.bool (D.any fun e => e.2.1 == i)) := by
  unfold marks
  rw [List.getElem?_map, List.getElem?_range h]
  rfl
theorem marks_nil : marks [] = List.replicate 256 (.bool false) := by
  show List.map (fun _ => Value.bool false) (List.range 256) = _
  rw [List.map_const', List.length_range]
theorem marks_set (D : List (Int × Nat × En)) (e : Int × Nat × En) : (marks D).set e.2.1 (.bool true) = marks (e :: D) := by
  apply List.ext_getElem?
  intro i
  by_cases hi : i < 256
  · rw [List.getElem?_set, marks_at _ hi, marks_at _ hi, marks_len, List.any_cons]
    by_cases h : e.2.1 = i
    · rw [if_pos h, if_pos (by omega), h]; simp
    · rw [if_neg h, show (e.2.1 == i) = false by simpa using h, Bool.false_or]
  · rw [List.getElem?_eq_none (by rw [List.length_set, marks_len]; omega), List.getElem?_eq_none (by rw [marks_len]; omega)]
abbrev zTaken : List Value := List.replicate 256 (.bool false)
theorem zTak (w : World) : (zeroValue 64).run Try.prog w = .ok (.agg zTaken.toArray) w := by kernel_rfl
theorem slice_taken (w : World) (g n : Nat) (hn : n ≤ 256) : (Instr.sliceAt 64 (.pointer (some ⟨g, 0, none⟩)) none (some (.int .i64 (n : Int))) none).run Try.prog w = .ok (.slice (some ⟨g, 0, none⟩) n 256) w := by
  have hn' : (n : Int) ≤ 256 := by omega
  go_simp
/-- What leastFree tells. -/
def gapI (S : Sl) : Int := match gapS S with
  | some i => (i : Int)
  | none => -1
section
variable {w w' : World} {gs gm n : Nat} {S : Sl} {R : Nat → Prop}
/-- What holds amid the loop. -/
structure LsI (w wr : World) (gs gm n : Nat) (S : Sl) (g1 r : Nat) (lf : List (Int × Nat × En)) : Prop where
  rg : Ranged 3 wr r gm (fun e : Int × Nat × En => iv e.1) slV (entS S) lf
  ex : ∃ D, (entS S).Perm (D ++ lf) ∧ Blk wr g1 64 (marks D)
  grow : Grow w wr
set_option maxRecDepth 100000 in
set_option maxHeartbeats 2000000 in
theorem spleast_any (h : SpM w gs gm n S) : Calls Try.prog 19 #[ptr gs] w fun e w' => e = .returned (.int .i64 (gapI S)) ∧ Grow w w' := by
  obtain ⟨w1, hw1⟩ : ∃ w1, w1 = w.alloc (.cells zTaken.toArray 64) := ⟨_, rfl⟩
  obtain ⟨g1, hg1⟩ : ∃ g1, g1 = w.heap.size := ⟨_, rfl⟩
  have k1 : Grow w w1 := by rw [hw1]; exact (But.refl _ w).alloc _
  have s1 : w1.heap.size = g1 + 1 := by rw [hw1, hg1]; simp
  have b1 : Blk w1 g1 64 (marks []) := by rw [hw1, marks_nil]; exact Blk.new hg1.symm
  have h1 := h.grow k1
  have c1 : w1.cell? ⟨gs, 1, none⟩ = some (.map (some gm)) := h1.blk.cell 1
  have hnd : ((entS S).map (fun e : Int × Nat × En => iv e.1)).Nodup := by
    have := nodup_map (f := iv) (fun _ _ _ _ e => iv_inj e) (heldS_nodup h.ok)
    unfold heldS at this
    rw [List.map_map] at this
    exact this
  obtain ⟨w2, hrg, hg2, hz2, hR⟩ := h1.map.range (t := 53) (et := 58) Try.underlying53 hnd
  obtain ⟨r, hr⟩ : ∃ r, r = w1.heap.size := ⟨_, rfl⟩
  rw [← hr] at hrg hR
  have HST : Hid (LsI w w2 gs gm n S g1 r (entS S)) := ⟨hR, ⟨[], List.Perm.refl _, b1.but hg2 (fun h => h)⟩, k1.trans hg2⟩
  have HLT : Hid (w.heap.size ≤ g1 ∧ w.heap.size ≤ r ∧ g1 ≠ r ∧ g1 < w2.heap.size) := ⟨by omega, by omega, by omega, by omega⟩
  have HH := Hid.mk' h
  have HRG := Hid.mk' hrg
  have HW1 := Hid.mk' hw1
  have HGE := Hid.mk' hg1
  clear h h1 hw1 hg1 k1 s1 b1 hnd hrg hg2 hz2 hR hr
  go_enter Try.func19, Try.ntmps19
  go_upto_region 2 with (first
    | (refine wpList_runH rfl (exec_allocF rfl (zTak w)) ?_)
    | fail)
  rw [← HW1.out, ← HGE.out]
  go_wp2_with (first
    | (refine wpList_runH rfl (exec_range rfl rfl HRG.out) ?_)
    | fail)
  refine act_down (fun K hK => ?_)
  go_simp
  refine hK _ ?_
  clear hK K
  go_loopw [5] (fun _ wr => ∃ lf, LsI w wr gs gm n S g1 r lf) (fun _ wr => leftN wr r gm)
  case atStart => exact ⟨_, HST.out⟩
  case round =>
    clear HST HRG c1
    obtain ⟨wq, hwq⟩ : ∃ wq, wq = wr := ⟨_, rfl⟩
    subst hwq
    obtain ⟨lf, hI⟩ := hrel
    have HI := Hid.mk' hI
    rcases hI.rg.next 0 with ⟨rfl, hnx⟩ | ⟨⟨p, i, x⟩, lf', w3, hx, hperm, hnx, hb3, hsz3, hR3, hent⟩
    · have HNX := Hid.mk' hnx
      obtain ⟨D, hD, hbD⟩ := hI.ex
      rw [List.append_nil] at hD
      have hm := HH.out.grow hI.grow
      have hlen := hm.len
      have hhi := hm.hi
      have c0 : wq.cell? ⟨gs, 0, none⟩ = some (.int .i64 (n : Int)) := hm.blk.cell 0
      have hat : ∀ j, j < n → wq.cell? ⟨g1, j, none⟩ = some (.bool (match S[j]? with | some (some _) => true | _ => false)) := fun j hj => by
        rw [hbD.cell, marks_at D (by omega)]
        congr 2
        rw [Bool.eq_iff_iff, List.any_eq_true]
        constructor
        · rintro ⟨⟨q, k, y⟩, he, e2⟩
          obtain rfl : k = j := by simpa using e2
          rw [mem_entS.1 (hD.mem_iff.2 he)]
        · intro h9
          cases e : S[j]? with
          | none => rw [e] at h9; cases h9
          | some o =>
            cases o with
            | none => rw [e] at h9; cases h9
            | some q => exact ⟨(q.1, j, q.2), hD.mem_iff.1 (mem_entS.2 e), by simp⟩
      have HIX : Hid (Calls Try.prog 22 #[.slice (some ⟨g1, 0, none⟩) n 256, .bool false] wq fun e w' => e = .returned (.int .i64 (gapI S)) ∧ w' = wq) := by
        show Calls _ _ _ _ _
        unfold gapI
        cases e : gapS S with
        | some q =>
          obtain ⟨g7, g8⟩ := gapS_some e
          have hq : q < n := by rw [← hlen]; exact (List.getElem?_eq_some_iff.1 g7).1
          refine indexb_some hhi hq (by rw [hat q hq, g7]) (fun j hj => ?_)
          obtain ⟨z, hz⟩ := g8 j hj
          rw [hat j (by omega), hz]
        | none =>
          refine indexb_none hhi (fun j hj => ?_)
          obtain ⟨z, hz⟩ := gapS_none e j (by omega)
          rw [hat j hj, hz]
      have HSL := Hid.mk' (slice_taken wq g1 n hhi)
      have HGR := Hid.mk' hI.grow
      clear hnx hI hD hbD hm hlen hat
      go_wp2_with (first
        | (refine wpList_runH rfl (exec_next rfl rfl rfl HNX.out) ?_)
        | (refine wpList_runH rfl (exec_slc rfl rfl rfl rfl HSL.out) ?_)
        | fail)
      refine Calls.mono HIX.out ?_
      rintro e w' ⟨rfl, hw⟩
      have h2 := hw.symm
      subst h2
      clear hw
      go_wp2
      go_ret
      exact ⟨rfl, HGR.out⟩
    · obtain ⟨D, hD, hbD⟩ := hI.ex
      have hSi := mem_entS.1 hx
      have hi : i < 256 := by
        have := (List.getElem?_eq_some_iff.1 hSi).1
        have := HH.out.len
        have := HH.out.hi
        omega
      have hib : (i : Int) < 256 := by omega
      have hbD3 := hbD.but hb3 HLT.out.2.2.1
      obtain ⟨w4, hs4, hb4, hg4⟩ := boxSl w3 i x
      obtain ⟨q, hq⟩ : ∃ q, q = w3.heap.size := ⟨_, rfl⟩
      have d0 : w4.cell? ⟨q, 0, none⟩ = some (.int .i64 (i : Int)) := by rw [hq]; exact hb4.cell 0
      have hbD4 := hbD3.but hg4 (fun h => h)
      have HST4 : Hid (LsI w (w4.setCell ⟨g1, i, none⟩ (.bool true)) gs gm n S g1 r lf') := by
        have hgm : gm < w.heap.size := HH.out.lt.2
        have ks := But.set1 w4 g1 i (.bool true)
        have hl := HLT.out
        refine ⟨(hR3.grow hg4).but ks (fun e => hl.2.2.1 e.symm) (fun e => by omega), ⟨(p, i, x) :: D, ?_, ?_⟩, ?_⟩
        · exact (hD.trans ((hperm.append_left D).trans List.perm_middle))
        · have := hbD4.set i (.bool true)
          rw [marks_set D (p, i, x)] at this
          exact this
        · exact ((hI.grow.then hb3 (fun b hb e => by omega)).trans hg4).then ks (fun b hb e => by omega)
      have HLEFT : Hid (lf'.length < leftN wq r gm) := by
        show _ < _
        rw [hI.rg.left, hperm.length_eq]
        simp
      have HNX := Hid.mk' hnx
      have HENT := Hid.mk' hent
      have HS4 := Hid.mk' hs4
      have HQ := Hid.mk' hq
      have HBD4 := Hid.mk' hbD4
      have HIL : Hid (i < (marks D).length) := by show _ < _; rw [marks_len]; exact hi
      clear hI hx hperm hnx hb3 hsz3 hR3 hent hD hbD hSi hbD3 hs4 hb4 hg4 hq hbD4
      go_wp2_with (first
        | (refine wpList_runH rfl (exec_next rfl rfl rfl HNX.out) ?_)
        | (refine wpList_runH rfl (exec_entry rfl rfl HENT.out) ?_)
        | (refine wpList_runH rfl (exec_allocF rfl (zSlot w3)) ?_)
        | (refine wpList_skipH rfl (exec_stF (v := .agg (scl i x).toArray) rfl rfl rfl HS4.out) ?_; rw [← HQ.out])
        | (refine wpList_skipH rfl (exec_store (g := g1) (i := i) (by kernel_rfl) rfl rfl rfl rfl HBD4.out HIL.out) ?_)
        | fail)
      refine ⟨⟨_, HST4.out⟩, ?_⟩
      show leftN (w4.setCell ⟨g1, i, none⟩ (.bool true)) r gm < leftN wq r gm
      rw [HST4.out.rg.left]
      exact HLEFT.out
end
end Go.Proofs.Ytehajgfjdmhdpaa
