/- The reference's Blocks of layer 7. -/
import Derived.Test.YtpdkdeebdhdhgaaRefGAdd
import Derived.Laws.OwnMore
namespace Go.Proofs.Ytpdkdeebdhdhgaa
open Go.RowKit

/-- The bytes filled up to whole blocks. -/
def padB (xs : List Nat) : List Nat := xs ++ List.replicate ((16 - xs.length % 16) % 16) 0
def nblk (n : Nat) : Nat := (n + 15) / 16
theorem padB_len (xs : List Nat) : (padB xs).length = nblk xs.length * 16 := by
  unfold padB nblk; rw [List.length_append, List.length_replicate]; omega
/-- The first k bytes, and room for one more in their last block. -/
def room (xs : List Nat) (k : Nat) : List Nat := xs.take k ++ List.replicate (16 - k % 16) 0
theorem room_len (xs : List Nat) (k : Nat) (h : k < xs.length) : (room xs k).length = (k / 16 + 1) * 16 := by
  unfold room; rw [List.length_append, List.length_take, List.length_replicate]; omega
theorem padB_take (xs : List Nat) (k : Nat) (h : k ≤ xs.length) : padB (xs.take k) = xs.take k ++ List.replicate ((16 - k % 16) % 16) 0 := by
  unfold padB
  rw [List.length_take, Nat.min_eq_left h]
theorem room_set (xs : List Nat) (k : Nat) (h : k < xs.length) : (room xs k).set k (xs.getD k 0) = padB (xs.take (k + 1)) := by
  rw [padB_take xs (k + 1) (by omega)]
  unfold room
  have hl : (xs.take k).length = k := by rw [List.length_take]; omega
  rw [List.set_append, if_neg (by omega), hl, Nat.sub_self]
  obtain ⟨m, hm⟩ : ∃ m, 16 - k % 16 = m + 1 := ⟨15 - k % 16, by omega⟩
  rw [hm, List.replicate_succ, List.set_cons_zero, show (16 - (k + 1) % 16) % 16 = m by omega]
  have g : xs.getD k 0 = xs[k] := by simp [List.getD, List.getElem?_eq_getElem h]
  rw [List.take_succ_eq_append_getElem h, g, List.append_assoc]
  rfl
theorem row16 (w : World) : (Instr.buildSlice 51 1 #[(0, .agg (u8s (List.replicate 16 0)).toArray)]).run Try.prog w = .ok (.slice (some ⟨w.heap.size, 0, none⟩) 1 1) (w.alloc (.cells (u8s (List.replicate 16 0)).toArray 22)) := by kernel_rfl
theorem info16 : (Try.prog.info? 22).map (fun i => (i.zero, i.size, i.bytes)) = some (some (.agg (u8s (List.replicate 16 0)).toArray), 16, 16) := by kernel_rfl
theorem addr_add' (g k : Nat) : (⟨g, 0, none⟩ : Addr).add k = ⟨g, k, none⟩ := by
  by_cases e : k = 0
  · subst e; simp [Addr.add]
  · simp [Addr.add, e]
theorem but_grown {w w' : World} {v : Value} (h : w.grownBy w' v.ownBlock) : But (fun j => v.ownBlock = some j) w w' := ⟨h.os, h.tape, h.output, h.size, fun j hj hn => h.block j hj (fun e => hn e.symm)⟩
set_option maxRecDepth 100000 in
set_option maxHeartbeats 1000000 in
theorem rgblocks_any {w : World} {v : Value} {xs : List Nat} (hv : Bs w v xs) (hl : xs.length ≤ 100000) :
    Calls Try.prog 25 #[v] w fun e w' => ∃ vB, e = .returned vB ∧ w'.ownsRow w.heap.size 22 16 vB (nblk xs.length) (u8s (padB xs)) ∧ But (fun _ => False) w w' := by
  have HV := Hid.mk' hv
  obtain ⟨n, hn⟩ : ∃ n, n = xs.length := ⟨_, rfl⟩
  have hshape : ∃ ao cap, v = .slice ao n cap := by
    obtain ⟨_, _, ⟨h0, rfl | ⟨a, c, rfl⟩⟩ | ⟨_, b, o, c, rfl, _⟩⟩ := hv
    · exact ⟨none, 0, by rw [hn, h0]; rfl⟩
    · exact ⟨some a, c, by rw [hn, h0]; rfl⟩
    · exact ⟨_, c, by rw [hn]⟩
  obtain ⟨ao, cap, rfl⟩ := hshape
  rw [← hn] at hl ⊢
  have HN := Hid.mk' hn
  clear hv hn
  go_enter Try.func25, Try.ntmps25
  go_wp2
  go_loopw [3, 4] (fun o i wr => ∃ k : Nat, k ≤ n ∧ i = .int .i64 k ∧ wr.ownsRow w.heap.size 22 16 o (nblk k) (u8s (padB (xs.take k))) ∧ But (fun _ => False) w wr) (fun _ i _ => n - (intOf i).toNat)
  case atStart => exact ⟨0, by omega, rfl, by simpa [nblk, padB] using World.ownsRow_nil w w.heap.size 22 16, But.refl _ w⟩
  case round =>
    obtain ⟨k, hk, rfl, hown, hbt⟩ := hrel
    have HOWN := Hid.mk' hown
    have HBT := Hid.mk' hbt
    clear hown hbt
    by_cases hlt : k < n
    · have hki : (k : Int) < (n : Int) := by omega
      have hbs := HV.out.but HBT.out (fun _ _ _ h => h)
      obtain ⟨bb, off, rfl, hbb⟩ : ∃ bb off, ao = some ⟨bb, off, none⟩ ∧ (∀ i, i < n → w.cell? ⟨bb, off + i, none⟩ = some (.int .u8 (xs.getD i 0 : Nat)) ∧ bb < w.heap.size) := by
        obtain ⟨_, _, ⟨h0, _⟩ | ⟨_, b, o, c, he, _, hlt, hc⟩⟩ := HV.out
        · exfalso
          have := HN.out
          rw [h0] at this
          simp at this
          omega
        · injection he with e1 e2 e3
          exact ⟨b, o, e1, fun i hi => ⟨hc i (by rw [← HN.out]; exact hi), hlt⟩⟩
      obtain ⟨q, hq⟩ : ∃ q, q = k / 16 := ⟨_, rfl⟩
      obtain ⟨r, hr⟩ : ∃ r, r = k % 16 := ⟨_, rfl⟩
      obtain ⟨x, hx⟩ : ∃ x, x = xs.getD k 0 := ⟨_, rfl⟩
      have hx256 : x < 256 := by rw [hx]; exact HV.out.1 _ (getD_mem xs k (by rw [← HN.out]; exact hlt))
      have d3 : Int.tmod (k : Int) 16 = (r : Int) := by rw [Int.tmod_eq_emod_of_nonneg (by omega)]; omega
      have d1 : Int.tdiv (k : Int) 16 = (q : Int) := by rw [Int.tdiv_eq_ediv_of_nonneg (by omega)]; omega
      have d2 : IntKind.i64.wrap (q : Int) = (q : Int) := by simp [IntKind.wrap, IntKind.bits, IntKind.signed]; omega
      have hr16 : r < 16 := by omega
      have hr16' : (r : Int) < 16 := by omega
      have hqq : (q : Int) < ((q + 1 : Nat) : Int) := by omega
      have hqq2 : (q : Int) < (q : Int) + 1 := by omega
      have HE : Hid (q * 16 + r = k ∧ q = k / 16 ∧ r = k % 16) := by show _ ∧ _; omega
      have HXE := Hid.mk' hx
      have HCB := Hid.mk' hbb
      clear hq hr hx hbb hbs
      by_cases h0 : r = 0
      case' pos =>
        have e0 : ((r : Int) == 0) = true := by rw [h0]; rfl
        have HR0 := Hid.mk' h0
        clear h0
        obtain ⟨i0, hi0, hy0, hy1, hy2⟩ := info_parts info16
        have HI0 := Hid.mk' hi0
        have HY0 := Hid.mk' hy0
        have HY1 := Hid.mk' hy1
        have HY2 := Hid.mk' hy2
        clear hi0 hy0 hy1 hy2
        have HCN : Hid (∀ j u, (u8s (List.replicate 16 0))[j]? = some u → (wr.alloc (.cells (u8s (List.replicate 16 0)).toArray 22)).cell? ((⟨wr.heap.size, 0, none⟩ : Addr).add j) = some u) := by
          intro j u hj
          have hb : Blk (wr.alloc (.cells (u8s (List.replicate 16 0)).toArray 22)) wr.heap.size 22 (u8s (List.replicate 16 0)) := Blk.new rfl
          rw [addr_add']
          exact (hb.cell j).trans hj
        have HOA := Hid.mk' (HOWN.out.alloc (.cells (u8s (List.replicate 16 0)).toArray 22))
        have HBA := Hid.mk' (HBT.out.alloc (.cells (u8s (List.replicate 16 0)).toArray 22))
        generalize hWA : wr.alloc (.cells (u8s (List.replicate 16 0)).toArray 22) = WA at *
        have HWA := Hid.mk' hWA
        clear hWA
        have hnb : nblk k ≤ 10000 := by unfold nblk; omega
        go_upto_region 7 with (first
          | (refine wpList_build rfl _ _ rfl (by kernel_rfl) ?_
             rw [show (Try.prog.built 22 _).getD #[] = (u8s (List.replicate 16 0)).toArray by kernel_rfl]
             refine wpList_plain rfl (fun K hK => op_row1 51 _ _ _ rfl rfl (row16 _) (hK _ _ ?_))
             rw [HWA.out]
             refine wpList_append_own WA rfl _ _ 51 rfl w.heap.size 22 i0 _ 16 16 Try.underlying51 HI0.out HY0.out HY1.out HY2.out rfl (by decide) _ (nblk k) _ rfl HOA.out ⟨wr.heap.size, 0, none⟩ 1 1 (u8s (List.replicate 16 0)) rfl rfl HCN.out (u8s_one _) (by unfold maxLen; omega) (by omega) HBA.out.size ?_
             intro v' w' hown' hgr' hiff)
          | fail)
        clear hiff
        have hnk : nblk k + 1 = q + 1 := by have := HE.out; have := HR0.out; unfold nblk; omega
        have HBW : Hid (But (fun _ => False) w w') := HBA.out.then (but_grown hgr') (fun j hj e => by
          have := (HOA.out.lt j e).1
          omega)
        obtain ⟨gr, cp, hshape⟩ : ∃ gr cp, v' = .slice (some ⟨gr, 0, none⟩) (q + 1) cp := by
          obtain ⟨_, ⟨_, hz⟩ | ⟨gr, cp, cur, h, _⟩⟩ := hown'
          · omega
          · exact ⟨gr, cp, by rw [h, hnk]⟩
        subst hshape
        have HOW : Hid (w'.ownsRow w.heap.size 22 16 (.slice (some ⟨gr, 0, none⟩) (q + 1) cp) (q + 1) (u8s (room xs k))) := by
          have h := hown'
          rw [hnk, padB_take xs k (by rw [← HN.out]; omega)] at h
          have hk0 : k % 16 = 0 := by have := HE.out; have := HR0.out; omega
          unfold room
          rw [hk0] at h ⊢
          rw [show (16 - 0) % 16 = 0 from rfl, List.replicate_zero, List.append_nil] at h
          rw [show 16 - 0 = 16 from rfl]
          unfold u8s at h ⊢
          rw [List.map_append]
          exact h
        clear hown' hgr' hnk HOA HBA HCN HI0 HY0 HY1 HY2 HWA hnb HR0
      case' neg =>
        have e0 : ((r : Int) == 0) = false := by rw [beq_eq_false_iff_ne]; intro h; exact h0 (by omega)
        have HR0 := Hid.mk' h0
        clear h0
        have hnk : nblk k = q + 1 := by have := HE.out; have := HR0.out; unfold nblk; omega
        obtain ⟨gr, cp, hshape⟩ : ∃ gr cp, u3 = .slice (some ⟨gr, 0, none⟩) (q + 1) cp := by
          obtain ⟨_, ⟨_, hz⟩ | ⟨gr, cp, cur, h, _⟩⟩ := HOWN.out
          · omega
          · exact ⟨gr, cp, by rw [h, hnk]⟩
        subst hshape
        obtain ⟨w', hw'⟩ : ∃ w', w' = wr := ⟨_, rfl⟩
        have HOW : Hid (w'.ownsRow w.heap.size 22 16 (.slice (some ⟨gr, 0, none⟩) (q + 1) cp) (q + 1) (u8s (room xs k))) := by
          have h := HOWN.out
          rw [hnk, padB_take xs k (by rw [← HN.out]; omega)] at h
          have e : (16 - k % 16) % 16 = 16 - k % 16 := by have := HE.out; have := HR0.out; omega
          rw [e] at h
          rw [hw']; exact h
        have HBW : Hid (But (fun _ => False) w w') := by rw [hw']; exact HBT.out
        rw [← hw']
        clear hw' hnk HR0
        go_upto_region 7 with fail
      all_goals
        have hlen := room_len xs k (by rw [← HN.out]; exact hlt)
        have hqk := HE.out
        have ck : w'.cell? ⟨gr, q * 16 + r, none⟩ = some (.int .u8 ((room xs k).getD (q * 16 + r) 0 : Nat)) := by
          have h := HOW.out.cells (g := gr) rfl (q * 16 + r) (.int .u8 ((room xs k).getD (q * 16 + r) 0 : Nat)) (u8s_get _ _ (by omega))
          rw [addr_add'] at h
          exact h
        have fk := HOW.out.frozenAt (q * 16 + r)
        have cb : w'.cell? ⟨bb, off + k, none⟩ = some (.int .u8 (x : Nat)) := by
          have h := HCB.out k hlt
          rw [HXE.out, ← h.1]
          exact World.cell?_of_block (HBW.out.block bb h.2 (fun h => h))
        generalize (room xs k).getD (q * 16 + r) 0 = old at ck
        clear hlen hqk
        refine region_ends (l := [_, _, _, _, _, _, _, _, _, _, _]) (o := _) (by kernel_rfl) (by kernel_rfl) (by kernel_rfl) rfl (by kernel_rfl) (by kernel_rfl) ?_
        repeat (quiet_step (fail))
        refine wpQuiet_nil ?_
        intro _ hw'
        obtain ⟨nq, hw''⟩ := hw'
        subst hw''
        go_wp2
        have hst := ((show (w'.drewN nq).ownsRow w.heap.size 22 16 (.slice (some ⟨gr, 0, none⟩) (q + 1) cp) (q + 1) (u8s (room xs k)) from HOW.out).stored (q * 16 + r) (.int .u8 (x : Nat))).1
        have hqk := HE.out
        have hgr := (HOW.out.lt gr rfl).1
        have hs2 : But (· = gr) w' ((w'.drewN nq).setCell ⟨gr, q * 16 + r, none⟩ (.int .u8 (x : Nat))) := ((But.refl (· = gr) w').drewN (n := nq)).setCell (p := ⟨gr, q * 16 + r, none⟩) (fun _ => rfl) _
        refine ⟨⟨k + 1, by omega, by go_num, ?_, HBW.out.then hs2 (fun i hi e => by omega)⟩, by simp [intOf]; omega⟩
        rw [← room_set xs k (by rw [← HN.out]; exact hlt), ← HXE.out, show nblk (k + 1) = q + 1 by unfold nblk; omega, ← u8s_set]
        rw [hqk.1] at hst ⊢
        exact hst
    · have hkn : k = n := by omega
      have hki : ¬ ((k : Int) < (n : Int)) := by omega
      go_wp2
      go_ret
      refine ⟨u3, rfl, ?_, HBT.out⟩
      have h := HOWN.out
      rw [hkn, List.take_of_length_le (by rw [← HN.out]; omega)] at h
      exact h
end Go.Proofs.Ytpdkdeebdhdhgaa
