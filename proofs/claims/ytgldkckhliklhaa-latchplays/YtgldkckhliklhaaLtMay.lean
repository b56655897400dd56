/- The reference: may a request be granted? -/
import Derived.Test.YtgldkckhliklhaaLtRef
import Derived.Test.YtgldkckhliklhaaPast
namespace Go.Proofs.Ytgldkckhliklhaa
open Go.RowKit

def MayTo (w : World) (s : Ls) (p : Nat) (x : Wt) (e : Ending) (w' : World) : Prop := ∃ r : Bool, e = .returned (.bool r) ∧ (r = true ↔ (∀ j, j < p → ∀ y : Wt, s.q[j]? = some y → y.2.1 ≠ x.2.1) ∧ mayG s.has x = true) ∧ Grow w w'
section
variable {w : World} {gx : Nat} {vh vq : Value} {s : Ls}
set_option maxRecDepth 100000 in
set_option maxHeartbeats 4000000 in
theorem may_any (h : Rt w gx vh vq s) {p : Nat} {x : Wt} (hp : s.q[p]? = some x) : Calls Try.prog 35 #[ptr gx, .int .i64 (p : Int)] w (MayTo w s p x) := by
  obtain ⟨xt, xk, xa⟩ := x
  obtain ⟨n, hn⟩ : ∃ n, n = s.q.length := ⟨_, rfl⟩
  obtain ⟨m, hm⟩ : ∃ m, m = s.has.length := ⟨_, rfl⟩
  obtain ⟨ao, cap, e, -⟩ := h.hrow.shape
  rw [← hm] at e
  obtain ⟨g, cp, e1, -, hcell⟩ := h.qrow.cellAt (fun e _ => wnc_len e) hp
  rw [← hn] at e1
  have hpn : p < n := by have := (List.getElem?_eq_some_iff.1 hp).1; omega
  have hpi : (p : Int) < (n : Int) := by omega
  have hnb : (n : Int) ≤ 10000 := by have := h.lq; omega
  have hmb : (m : Int) ≤ 10000 := by have := h.lh; omega
  have hpb : (p : Int) ≤ 10000 := by omega
  have HCW : Hid (∀ c u, (wnc (xt, xk, xa))[c]? = some u → w.cell? ((⟨g, p * 3, none⟩ : Addr).add c) = some u) := fun c u hc => by
    rw [addr_add]; exact hcell c u hc
  obtain ⟨gb, hg⟩ : ∃ gb, gb = w.heap.size := ⟨_, rfl⟩
  have HG := Hid.mk' hg
  have HAL : Hid (Grow w (w.alloc (.cells #[.int .i64 0, .int .i64 0, .bool false] 64))) := (But.refl _ w).alloc _
  have HBZ : Hid (Blk (w.alloc (.cells #[.int .i64 0, .int .i64 0, .bool false] 64)) gb 64 [.int .i64 0, .int .i64 0, .bool false]) := Blk.new (L := [.int .i64 0, .int .i64 0, .bool false]) hg.symm
  have c1 : w.cell? ⟨gx, 1, none⟩ = some vq := h.blk.cell 1
  subst e e1
  have HH := Hid.mk' h
  have HN := Hid.mk' hn
  have HM := Hid.mk' hm
  have HPN := Hid.mk' hpn
  clear h hn hm hcell hg hp hpn
  go_enter Try.func35, Try.ntmps35
  go_upto_region 2 with (first
    | (refine wpList_load_cells rfl _ _ rfl ⟨g, p * 3, none⟩ rfl (wnc (xt, xk, xa)) _ HCW.out Try.underlying64 rfl iWn ?_)
    | (refine wpList_store_at rfl _ _ _ rfl gb 0 (wnc (xt, xk, xa)) (by rw [HG.out]; rfl) rfl 64 [] [.int .i64 0, .int .i64 0, .bool false] [] (by simpa using HBZ.out) rfl rfl iWn (wnc_one _) ?_; intro w3 hb3 hbut3; rw [List.nil_append, List.append_nil] at hb3)
    | fail)
  have HG3 : Hid (Grow w w3) := HAL.out.then hbut3 (fun j hj e => by have := HG.out; omega)
  have HH3 := Hid.mk' (HH.out.grow HG3.out)
  have HB3 := Hid.mk' hb3
  rw [← HG.out]
  clear hb3 hbut3 HAL HBZ HCW c1 HH
  go_wp2
  go_loopw [6] (fun iv wr => ∃ i : Nat, i ≤ p ∧ iv = .int .i64 i ∧ (∀ j, j < i → ∀ y : Wt, s.q[j]? = some y → y.2.1 ≠ xk) ∧ Grow w3 wr) (fun iv _ => p - (intOf iv).toNat)
  case atStart => exact ⟨0, Nat.zero_le _, rfl, fun j hj => absurd hj (by omega), But.refl _ _⟩
  case round =>
    obtain ⟨i, hip, rfl, hno, hgw⟩ := hrel
    have HNO := Hid.mk' hno
    have HGW := Hid.mk' hgw
    clear hno hgw
    by_cases hlt : (i : Int) < (p : Int)
    · have hin : (i : Int) < (n : Int) := by omega
      obtain ⟨⟨yt, yk, ya⟩, hy⟩ : ∃ e, s.q[i]? = some e := ⟨_, List.getElem?_eq_getElem (by have := HN.out; omega)⟩
      obtain ⟨g', cp', e1, -, hcell⟩ := HH3.out.qrow.cellAt (fun e _ => wnc_len e) hy
      simp only [Value.slice.injEq, Option.some.injEq, Addr.mk.injEq, and_true] at e1
      obtain ⟨rfl, -, -⟩ := e1
      have HY := Hid.mk' hy
      have HCY := Hid.mk' (show w3.cell? ⟨g, i * 3 + 1, none⟩ = some (.int .i64 yk) from hcell 1 _ rfl)
      clear hcell hy
      go_upto_region 5 with fail
      refine region_chain [] [0, 1, 2, 3, 4, 5, 6, 7, 8, 9, 10] (Grow wr) (Grow wr) (by kernel_rfl) (by kernel_rfl) (fun _ _ h k => h.trans k) (fun _ h => h) ((But.refl _ wr).drew) ?_
      intro ι hne X hX
      have d0 : ∀ z, (X z).cell? ⟨gx, 1, none⟩ = some (.slice (some ⟨g, 0, none⟩) n cp) := fun z => (HH3.out.blk.but (HGW.out.trans (hX z)) (fun h => h)).cell 1
      have d1 : ∀ z, (X z).cell? ⟨g, i * 3 + 1, none⟩ = some (.int .i64 yk) := fun z => grow_cell (HGW.out.trans (hX z)) HCY.out
      have d2 : ∀ z, (X z).cell? ⟨gb, 1, none⟩ = some (.int .i64 xk) := fun z => (HB3.out.but (HGW.out.trans (hX z)) (fun h => h)).cell 1
      iterate 11 (refine still_step rfl (fun K hK => ?_); go_simp; refine hK _ ?_; clear hK K)
      refine still_nil ?_
      clear hX hne d0 d1 d2
      intro w5 hw5
      have HW5 := Hid.mk' (HGW.out.trans hw5)
      clear hw5
      by_cases hk : yk = xk
      · have hkb : (yk == xk) = true := by simpa using hk
        go_wp2
        go_ret
        refine ⟨false, rfl, ⟨fun h => (nomatch h), fun h => absurd hk (h.1 i (by omega) _ HY.out)⟩, HG3.out.trans HW5.out⟩
      · have hkb : (yk == xk) = false := by simpa using hk
        have HST : Hid (∀ j, j < i + 1 → ∀ y : Wt, s.q[j]? = some y → y.2.1 ≠ xk) := fun j hj y hy => by
          rcases Nat.lt_succ_iff_lt_or_eq.1 hj with h3 | h3
          · exact HNO.out j h3 y hy
          · rw [h3, HY.out] at hy
            cases hy
            exact hk
        go_wp2
        exact ⟨⟨i + 1, by omega, by go_num, HST.out, HW5.out⟩, by simp [intOf]; omega⟩
    · have hie : i = p := by omega
      subst hie
      go_wp2
      go_loopw [7] (fun iv wr => ∃ i : Nat, i ≤ m ∧ iv = .int .i64 i ∧ (∀ j, j < i → ∀ y : Wt, s.has[j]? = some y → y.2.1 = xk → y.2.2 = false ∧ xa = false) ∧ Grow w3 wr) (fun iv _ => m - (intOf iv).toNat)
      case atStart => exact ⟨0, Nat.zero_le _, rfl, fun j hj => absurd hj (by omega), HGW.out⟩
      case round =>
        clear HGW
        obtain ⟨k, hkm, rfl, hal, hgw⟩ := hrel
        have HGW := Hid.mk' hgw
        have HAL := Hid.mk' hal
        have c0 : wr.cell? ⟨gx, 0, none⟩ = some (.slice ao m cap) := (HH3.out.blk.but hgw (fun h => h)).cell 0
        clear hal hgw
        by_cases hlk : (k : Int) < (m : Int)
        · obtain ⟨⟨yt, yk, ya⟩, hy⟩ : ∃ e, s.has[k]? = some e := ⟨_, List.getElem?_eq_getElem (by have := HM.out; omega)⟩
          obtain ⟨g', cp', e1, -, hcell⟩ := HH3.out.hrow.cellAt (fun e _ => wnc_len e) hy
          simp only [Value.slice.injEq] at e1
          obtain ⟨rfl, -, rfl⟩ := e1
          have HY := Hid.mk' hy
          have HCY := Hid.mk' (show w3.cell? ⟨g', k * 3 + 1, none⟩ = some (.int .i64 yk) from hcell 1 _ rfl)
          have HCZ := Hid.mk' (show w3.cell? ⟨g', k * 3 + 2, none⟩ = some (.bool ya) from hcell 2 _ rfl)
          have HNX : Hid ((yk = xk → ya = false ∧ xa = false) → ∀ j, j < k + 1 → ∀ y : Wt, s.has[j]? = some y → y.2.1 = xk → y.2.2 = false ∧ xa = false) := fun hc j hj y hy => by
            rcases Nat.lt_succ_iff_lt_or_eq.1 hj with h3 | h3
            · exact HAL.out j h3 y hy
            · rw [h3, HY.out] at hy
              cases hy
              exact hc
          have HBAD : Hid (yk = xk → (ya = true ∨ xa = true) → mayG s.has (xt, xk, xa) = true → False) := fun h1 h2 h3 => by
            have h4 := mayG_iff.1 h3 _ (List.mem_of_getElem? HY.out) h1
            rcases h2 with h2 | h2
            · rw [show ((yt, yk, ya) : Wt).2.2 = ya from rfl, h2] at h4; cases h4.1
            · rw [show ((xt, xk, xa) : Wt).2.2 = xa from rfl, h2] at h4; cases h4.2
          clear hcell hy
          go_upto_region 10 with fail
          refine region_chain [] [0, 1, 2, 3, 4, 5, 6, 7, 8, 9, 10, 11, 12, 13, 14, 15, 16, 17, 18, 19, 20, 21, 22, 23, 24] (Grow wr) (Grow wr) (by kernel_rfl) (by kernel_rfl) (fun _ _ h k => h.trans k) (fun _ h => h) ((But.refl _ wr).drew) ?_
          intro ι hne X hX
          have d0 : ∀ z, (X z).cell? ⟨gx, 0, none⟩ = some (.slice (some ⟨g', 0, none⟩) m cap) := fun z => (HH3.out.blk.but (HGW.out.trans (hX z)) (fun h => h)).cell 0
          have d1 : ∀ z, (X z).cell? ⟨g', k * 3 + 1, none⟩ = some (.int .i64 yk) := fun z => grow_cell (HGW.out.trans (hX z)) HCY.out
          have d4 : ∀ z, (X z).cell? ⟨g', k * 3 + 2, none⟩ = some (.bool ya) := fun z => grow_cell (HGW.out.trans (hX z)) HCZ.out
          have d2 : ∀ z, (X z).cell? ⟨gb, 1, none⟩ = some (.int .i64 xk) := fun z => (HB3.out.but (HGW.out.trans (hX z)) (fun h => h)).cell 1
          have d3 : ∀ z, (X z).cell? ⟨gb, 2, none⟩ = some (.bool xa) := fun z => (HB3.out.but (HGW.out.trans (hX z)) (fun h => h)).cell 2
          by_cases hk : yk = xk
          · have hkb : (yk == xk) = true := by simpa using hk
            have HKE := Hid.mk' hk
            clear hk
            cases ya with
            | true =>
              iterate 25 (refine still_step rfl (fun K hK => ?_); go_simp; refine hK _ ?_; clear hK K)
              refine still_nil ?_
              clear hX hne d0 d1 d2 d3 d4
              intro w5 hw5
              have HW5 := Hid.mk' (HGW.out.trans hw5)
              clear hw5
              go_wp2
              go_ret
              exact ⟨false, rfl, ⟨fun h => (nomatch h), fun h => (HBAD.out HKE.out (.inl (by trivial)) h.2).elim⟩, HG3.out.trans HW5.out⟩
            | false =>
              cases xa with
              | true =>
                iterate 25 (refine still_step rfl (fun K hK => ?_); go_simp; refine hK _ ?_; clear hK K)
                refine still_nil ?_
                clear hX hne d0 d1 d2 d3 d4
                intro w5 hw5
                have HW5 := Hid.mk' (HGW.out.trans hw5)
                clear hw5
                go_wp2
                go_ret
                exact ⟨false, rfl, ⟨fun h => (nomatch h), fun h => (HBAD.out HKE.out (.inr (by trivial)) h.2).elim⟩, HG3.out.trans HW5.out⟩
              | false =>
                iterate 25 (refine still_step rfl (fun K hK => ?_); go_simp; refine hK _ ?_; clear hK K)
                refine still_nil ?_
                clear hX hne d0 d1 d2 d3 d4
                intro w5 hw5
                have HW5 := Hid.mk' (HGW.out.trans hw5)
                clear hw5
                have HST := Hid.mk' (HNX.out (fun _ => ⟨rfl, rfl⟩))
                go_wp2
                exact ⟨⟨k + 1, by omega, by go_num, fun j hj y hy e => ⟨(HST.out j hj y hy e).1, by trivial⟩, HW5.out⟩, by simp [intOf]; omega⟩
          · have hkb : (yk == xk) = false := by simpa using hk
            have HST := Hid.mk' (HNX.out (fun e => absurd e hk))
            clear hk
            iterate 11 (refine still_step rfl (fun K hK => ?_); go_simp; refine hK _ ?_; clear hK K)
            refine still_step rfl (fun K hK => ?_)
            have hK' := fun (a : Act) h1 h2 h3 h4 => hK a (still_pass3 (a := a) 11 true 51 (.bool false) [12, 13, 14, 15, 16, 17, 18, 19, 20] [52, 53, 54, 55, 56, 57, 58, 59, 60] 20 false 60 undef [21, 22] [61, 62] 11 true 51 (.bool false) [23] [63] [24] rfl rfl (fun h => by cases h) (by kernel_rfl) (by kernel_rfl) rfl (fun h => by cases h) (by kernel_rfl) (by kernel_rfl) rfl (fun h => by cases h) (by kernel_rfl) (by kernel_rfl) h1 h2 h3 h4)
            clear hK
            go_simp
            refine hK' _ (by kernel_rfl) (by kernel_rfl) (by kernel_rfl) ?_
            clear hK' K
            intro K hK
            simp only [undefL]
            go_simp
            refine hK _ ?_
            clear hK K
            iterate 1 (refine still_step rfl (fun K hK => ?_); go_simp; refine hK _ ?_; clear hK K)
            refine still_nil ?_
            clear hX hne d0 d1 d2 d3 d4
            intro w5 hw5
            have HW5 := Hid.mk' (HGW.out.trans hw5)
            clear hw5
            go_wp2
            exact ⟨⟨k + 1, by omega, by go_num, HST.out, HW5.out⟩, by simp [intOf]; omega⟩
        · have HTR : Hid (mayG s.has (xt, xk, xa) = true) := Hid.mk' (mayG_iff.2 (fun y hy e => by
            obtain ⟨j, hj⟩ := List.getElem?_of_mem hy
            exact HAL.out j (by have := (List.getElem?_eq_some_iff.1 hj).1; have := HM.out; omega) y hj e))
          go_wp2
          go_ret
          exact ⟨true, rfl, ⟨fun _ => ⟨HNO.out, HTR.out⟩, fun _ => rfl⟩, HG3.out.trans HGW.out⟩
end
end Go.Proofs.Ytgldkckhliklhaa
