/- The register: Write. -/
import Derived.Test.YtcikldklacgafaaRgReg
namespace Go.Proofs.Ytcikldklacgafaa
open Go.RowKit

def wgood (s : Dev) (S T : Stt) : Bool := s.up && S.follows T
def wrcode (s : Dev) (S T : Stt) : Int := if s.up then (if S.follows T then (if s.arm = 1 then 7 else 0) else 3) else 7
def wrdev (s : Dev) (S T : Stt) : Dev := if s.up then (if S.follows T then s.acc else s) else s
def wrheld (s : Dev) (S T : Stt) : Stt := if s.up then (if S.follows T then (if s.arm = 1 then S else T) else S) else S
section
variable {F : Nat → Prop} {w0 w : World} {gd gr : Nat} {s : Dev} {S T : Stt}
set_option maxRecDepth 100000 in
set_option maxHeartbeats 4000000 in
theorem regwrite_any (h : Rr F w0 w gd gr s S) (hT : T.ok) (hc : s.cnt < 4611686018427387904) (ha : s.arm ≤ 9223372036854775807) : Calls Try.prog 17 #[.pointer (some ⟨gr, 0, none⟩), .agg (scells T).toArray] w fun e w' => e = .returned (.int .i64 (wrcode s S T)) ∧ Rr F w0 w' gd gr (wrdev s S T) (wrheld s S T) := by
  obtain ⟨wb, gb, hbx⟩ := box_st w T
  have HW := Hid.mk' hbx.ew
  have HGB := Hid.mk' hbx.eg
  have HG := Hid.mk' hbx.grow
  have HBB := Hid.mk' hbx.blk
  have HR := Hid.mk' (h.add hbx.grow)
  have HFB : Hid ((fun b => F b ∨ (w.heap.size ≤ b ∧ b < wb.heap.size)) gb) := .inr ⟨Nat.le_of_eq hbx.eg.symm, hbx.blk.lt⟩
  have HBK : Hid (∀ w' s' S', Rr (fun b => F b ∨ (w.heap.size ≤ b ∧ b < wb.heap.size)) wb w' gd gr s' S' → Rr F w0 w' gd gr s' S') := fun w' s' S' h' => h'.less (fun b hb => .inl hb) h.fl ((h.but.trans (hbx.grow.mono (fun _ _ h => h.elim))).then h'.but (fun b _ hn hf => hn (.inl hf)))
  generalize (fun b => F b ∨ (w.heap.size ≤ b ∧ b < wb.heap.size)) = G at HR HFB HBK
  have HLT : Hid ((Try.prog.info? 26).map (·.size) = some (scells T).length) := by rw [scells_len hT]; exact iSt
  have HLS : Hid ((Try.prog.info? 26).map (·.size) = some (scells S).length) := by rw [scells_len h.ok]; exact iSt
  have HLE : Hid ((scells S).length = (scells T).length) := by show _ = _; rw [scells_len h.ok, scells_len hT]
  obtain ⟨M, hM⟩ : ∃ M, M = (scells T).toArray := ⟨_, rfl⟩
  obtain ⟨N, hN⟩ : ∃ N, N = (scells S).toArray := ⟨_, rfl⟩
  have HM := Hid.mk' hM
  have HN := Hid.mk' hN
  have HFO : Hid (∀ w, Calls Try.prog 10 #[.agg N, .agg M] w fun e w' => e = .returned (.bool (S.follows T)) ∧ Grow w w') := fun w => by rw [hN, hM]; exact follows_any h.ok hT w
  have HT := Hid.mk' hT
  have HCN := Hid.mk' hc
  have HAR := Hid.mk' ha
  have HC1 : Hid (wrcode s S T = if s.up then (if S.follows T then (if s.arm = 1 then 7 else 0) else 3) else 7) := rfl
  have HC2 : Hid (wrdev s S T = if s.up then (if S.follows T then s.acc else s) else s) := rfl
  have HC3 : Hid (wrheld s S T = if s.up then (if S.follows T then (if s.arm = 1 then S else T) else S) else S) := rfl
  have HUP : Hid (Calls Try.prog 22 #[.pointer (some ⟨gd, 0, none⟩)] wb fun e w' => e = .returned (.bool s.up) ∧ w' = wb) := by
    obtain ⟨own, hd, -⟩ := HR.out.dev
    exact up_any hd
  have HSP : Hid (s.up = true → ∀ w', Grow wb w' → Calls Try.prog 21 #[.pointer (some ⟨gd, 0, none⟩)] w' fun e w'' => e = .returned (.bool (!(s.arm == 1))) ∧ Rr G wb w'' gd gr s.acc S) := fun hu w' k => by
    obtain ⟨own, hd, hto⟩ := (HR.out.then k).dev
    refine (spend_any hd hc ha).mono ?_
    rintro e w'' ⟨rfl, h5⟩
    rw [hu] at h5 ⊢
    exact ⟨rfl, hto _ _ h5⟩
  generalize wrcode s S T = c at HC1 ⊢
  generalize wrdev s S T = s' at HC2 ⊢
  generalize wrheld s S T = S' at HC3 ⊢
  generalize S.follows T = f at HC1 HC2 HC3 HFO
  obtain ⟨u, hu⟩ : ∃ u, u = s.up := ⟨_, rfl⟩
  rw [← hu] at HC1 HC2 HC3 HSP HUP
  clear hu
  have r0 : wb.cell? ⟨gr, 0, none⟩ = some (.pointer (some ⟨gd, 0, none⟩)) := HR.out.blk.cell 0
  rw [← hM] at HW ⊢
  clear h hT hc ha hbx hM hN
  go_enter Try.func17, Try.ntmps17
  go_upto_region 1 with fail
  rw [← HW.out, ← HGB.out]
  clear HW HGB
  go_wp2_with fail
  refine Calls.mono HUP.out ?_
  rintro e w1 ⟨rfl, hw1⟩
  have h2 := hw1.symm
  subst h2
  clear hw1 HUP r0
  cases u
  case false =>
    go_wp2
    go_ret
    exact ⟨by rw [show c = 7 by rw [HC1.out]; simp]; rfl, by rw [show s' = s by rw [HC2.out]; simp, show S' = S by rw [HC3.out]; simp]; exact HBK.out _ _ _ HR.out⟩
  go_upto_region 5 with fail
  refine region_chain [] [0, 1, 2, 3, 4, 5, 6] (Grow wb) (Grow wb) (by kernel_rfl) (by kernel_rfl) (fun _ _ h k => h.trans k) (fun _ h => h) ((But.refl _ wb).drew) ?_
  intro ι hne X hX
  iterate 3 (refine still_step rfl (fun K hK => ?_); go_simp; refine hK _ ?_; clear hK K)
  refine still_val rfl (.agg N) rfl (fun x => by
    rw [HN.out]
    exact exec_ld (ad := ⟨gr, 1, none⟩) Try.underlying26 rfl HLS.out (fun j v hj => by
      rw [addr_add, (HR.out.blk.but (hX x) (fun h => h)).cell, Nat.add_comm]
      exact hj) rfl rfl) ?_
  intro K hK; go_simp; refine hK _ ?_; clear hK K
  refine still_val rfl (.agg M) rfl (fun x => by rw [HM.out]; exact exec_ld Try.underlying26 rfl HLT.out (HBB.out.but (hX x) (fun h => h)).cells0 rfl rfl) ?_
  intro K hK; go_simp; refine hK _ ?_; clear hK K
  refine still_call rfl (.bool f) 10 #[.agg N, .agg M] rfl (fun x => by kernel_rfl) (fun x => HFO.out _) ?_
  intro K hK; go_simp; refine hK _ ?_; clear hK K
  iterate 1 (refine still_step rfl (fun K hK => ?_); go_simp; refine hK _ ?_; clear hK K)
  refine still_nil ?_
  clear hX hne
  intro w2 hw2
  have HR2 := Hid.mk' (HR.out.then hw2)
  have HS2 := Hid.mk' (HSP.out (by first | rfl | trivial) w2 hw2)
  clear hw2 HSP HFO
  cases f
  case false =>
    go_wp2
    go_ret
    exact ⟨by rw [show c = 3 by rw [HC1.out]; simp]; rfl, by rw [show s' = s by rw [HC2.out]; simp, show S' = S by rw [HC3.out]; simp]; exact HBK.out _ _ _ HR2.out⟩
  have r0 : w2.cell? ⟨gr, 0, none⟩ = some (.pointer (some ⟨gd, 0, none⟩)) := HR2.out.blk.cell 0
  by_cases ha1 : s.arm = 1
  · rw [show (!(s.arm == 1)) = false by simp [ha1]] at HS2
    go_wp2_with fail
    refine Calls.mono HS2.out ?_
    rintro e w3 ⟨rfl, hr3⟩
    have HE := Hid.mk' (HBK.out _ _ _ hr3)
    clear hr3
    go_wp2
    go_ret
    exact ⟨by rw [show c = 7 by rw [HC1.out]; simp [ha1]]; rfl, by rw [show s' = s.acc by rw [HC2.out]; simp, show S' = S by rw [HC3.out]; simp [ha1]]; exact HE.out⟩
  · rw [show (!(s.arm == 1)) = true by simpa using ha1] at HS2
    go_wp2_with fail
    refine Calls.mono HS2.out ?_
    rintro e w3 ⟨rfl, hr3⟩
    have HR3 := Hid.mk' hr3
    have HB3 := Hid.mk' (HBB.out.but hr3.but (fun n => n HFB.out))
    have HBR3 := Hid.mk' hr3.blk
    clear hr3 r0
    go_wp2_with (first
      | (refine wpList_load_cells rfl _ _ rfl ⟨gb, 0, none⟩ rfl (scells T) _ HB3.out.cells0 Try.underlying26 rfl HLT.out ?_)
      | (refine wpList_store_at rfl _ _ _ rfl gr 1 (scells T) rfl rfl 57 [.pointer (some ⟨gd, 0, none⟩)] (scells S) [] (by rw [List.append_nil]; exact HBR3.out) rfl HLE.out HLT.out (scells_one T) ?_; intro w4 hb4 hbut4; rw [List.append_nil] at hb4)
      | fail)
    go_ret
    exact ⟨by rw [show c = 0 by rw [HC1.out]; simp [ha1]]; rfl, by rw [show s' = s.acc by rw [HC2.out]; simp, show S' = T by rw [HC3.out]; simp [ha1]]; exact HBK.out _ _ _ (HR3.out.held HT.out hbut4 hb4)⟩
end
end Go.Proofs.Ytcikldklacgafaa
