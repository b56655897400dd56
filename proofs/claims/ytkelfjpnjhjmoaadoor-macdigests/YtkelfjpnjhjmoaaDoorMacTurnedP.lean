/- MacTurned: the walk. -/
import Derived.Test.YtkelfjpnjhjmoaaDoorMacSameP
namespace Go.Proofs.YtkelfjpnjhjmoaaDoor
open Go.RowKit

theorem i64_bounds {x : Int} (h : (Lit.int .i64 x).wf = true) : -9223372036854775808 ≤ x ∧ x ≤ 9223372036854775807 := by
  have h8 : IntKind.i64.min ≤ x ∧ x ≤ IntKind.i64.max := by simpa [Lit.wf, go_sem] using h
  have e1 : IntKind.i64.min = -9223372036854775808 := rfl
  have e2 : IntKind.i64.max = 9223372036854775807 := rfl
  omega
theorem pick_any (x : Int) (n : Nat) (hx : (Lit.int .i64 x).wf = true) (hn : 0 < n) (hn2 : n ≤ 1099511627776) (w : World) :
    Calls Tryd.prog 16 #[.int .i64 x, .int .i64 (n : Int)] w fun e w' => ∃ k : Nat, e = .returned (.int .i64 (k : Int)) ∧ k < n ∧ w' = w := by
  have hb := i64_bounds hx
  have h1 : ¬ ((n : Int) < 1) := by omega
  have h0 : ¬ ((n : Int) = 0) := by omega
  have hne : ¬ ((n : Int) = -1) := by omega
  have ht1 : x.tmod n < n := Int.tmod_lt_of_pos x (by omega)
  have ht2 : -(n : Int) < x.tmod n := by
    have := Int.lt_tmod_of_pos x (b := (n : Int)) (by omega)
    omega
  obtain ⟨m, hm⟩ : ∃ m, m = x.tmod n := ⟨_, rfl⟩
  rw [← hm] at ht1 ht2
  by_cases hneg : m < 0
  · go_enter Tryd.func16, Tryd.ntmps16
    go_wp2
    go_ret
    exact ⟨(m + n).toNat, by simp; omega, by omega, rfl⟩
  · go_enter Tryd.func16, Tryd.ntmps16
    go_wp2
    go_ret
    exact ⟨m.toNat, by simp; omega, by omega, rfl⟩

theorem Bs.setAt {w : World} {g n cap q y : Nat} {zs : List Nat} (h : Bs w (.slice (some ⟨g, 0, none⟩) n cap) zs) (hq : q < n) (hn : zs.length = n) (hy : y < 256) : Bs (w.setCell ⟨g, q, none⟩ (.int .u8 (y : Int))) (.slice (some ⟨g, 0, none⟩) n cap) (zs.set q y) := by
  obtain ⟨h1, h2, ⟨e, _⟩ | ⟨h0, b, off, cap', e, hcap, hb, hc⟩⟩ := h
  · rw [e] at hn; simp at hn; omega
  · simp only [Value.slice.injEq, Option.some.injEq, Addr.mk.injEq] at e
    obtain ⟨⟨rfl, rfl, _⟩, _, rfl⟩ := e
    refine ⟨?_, by simpa using h2, .inr ⟨by simpa using h0, g, 0, cap, by simp [hn], by simpa using hcap, by simpa using hb, fun i hi => ?_⟩⟩
    · intro z hz
      rcases List.mem_or_eq_of_mem_set hz with h | rfl
      · exact h1 z h
      · exact hy
    · have hi' : i < zs.length := by simpa using hi
      rw [Nat.zero_add]
      have hci := hc i hi'
      rw [Nat.zero_add] at hci
      by_cases e : q = i
      · subst e
        rw [World.cell?_setCell_same (h := hci)]
        simp [List.getD, hi']
      · rw [World.cell?_setCell_other (h := fun h => e (congrArg Addr.off h)), hci]
        simp [List.getD, List.getElem?_set_ne e]
theorem xor_ne (x r : Nat) : x ^^^ 2 ^ r ≠ x := by
  intro h
  have e : x ^^^ (x ^^^ 2 ^ r) = x ^^^ x := by rw [h]
  rw [← Nat.xor_assoc, Nat.xor_self, Nat.zero_xor] at e
  have : 0 < 2 ^ r := Nat.two_pow_pos r
  omega

set_option maxRecDepth 100000 in
set_option maxHeartbeats 4000000 in
theorem macTurned_walk (v0 : Value) (z0 : List Nat) (a1 : Int) (w : World) (hk : Kw w) (hh : Hw w) (h0 : Bs w v0 z0 ∧ z0.length ≤ 140737488351232) (h1 : (Lit.int .i64 a1).wf = true) :
    Calls Tryd.prog 6 #[v0, .int .i64 a1] w fun e w' => e = .returned (.bool true) ∧ Below w.heap.size w w' := by
  obtain ⟨hv, hl⟩ := h0
  have HAW : Hid (∀ w2, But (fun _ => False) w w2 → Calls Tryd.prog 9 #[] w2 fun e w' => e = .returned (.bool true) ∧ But (fun _ => False) w2 w') := fun w2 q => awake_any (hk.but q (fun h => h)) (hh.but q (fun h => h))
  have HV := Hid.mk' hv
  obtain ⟨a0, c0, rfl, -, -⟩ := hv.gen
  clear hk hh hv
  by_cases hn0 : z0.length = 0
  · have e0 : z0 = [] := List.eq_nil_of_length_eq_zero hn0
    subst e0
    have b1 : But (fun _ => False) w (w.alloc (.cells #[.int .u8 0] 5)) := (But.refl _ w).alloc _
    have hb : Bs (w.alloc (.cells #[.int .u8 0] 5)) (.slice (some ⟨w.heap.size, 0, none⟩) 1 1) [0] := lit_bs [0] _ _ rfl rfl (by decide) (by decide) (by decide) rfl
    have HS := Hid.mk' (msame_any (HV.out.but b1 (fun _ _ _ h => h)) hb)
    rw [show decide (([] : List Nat) = [0]) = false from rfl] at HS
    have HB1 := Hid.mk' b1
    clear b1 hb hn0
    go_enter Tryd.func6, Tryd.ntmps6
    go_wp2_with fail
    refine Calls.mono HS.out ?_
    rintro e w3 ⟨rfl, d3, rfl⟩
    go_wp2_with fail
    refine Calls.mono (HAW.out _ HB1.out.drewN) ?_
    rintro e w4 ⟨rfl, hb4⟩
    go_wp2
    go_ret
    exact ⟨rfl, (HB1.out.drewN.trans hb4).below (Nat.le_refl _) (fun _ _ h => h)⟩
  · obtain ⟨n, hn⟩ : ∃ n, n = z0.length := ⟨_, rfl⟩
    rw [← hn] at HV hl hn0 ⊢
    have hne : ¬ ((n : Int) = 0) := by omega
    by_cases hbig : 1048576 < n
    · have hbi : (1048576 : Int) < (n : Int) := by omega
      go_enter Tryd.func6, Tryd.ntmps6
      go_wp2_with fail
      refine Calls.mono (HAW.out _ (But.refl _ _)) ?_
      rintro e w4 ⟨rfl, hb4⟩
      go_wp2
      go_ret
      exact ⟨rfl, hb4.below (Nat.le_refl _) (fun _ _ h => h)⟩
    · have hbi : ¬ (1048576 : Int) < (n : Int) := by omega
      have HN := Hid.mk' hn
      have HCO := Hid.mk' (copy_any HV.out (by omega))
      clear hn
      go_enter Tryd.func6, Tryd.ntmps6
      go_wp2_with fail
      refine Calls.mono HCO.out ?_
      rintro e w1 ⟨v', rfl, hown, hb1⟩
      go_wp2_with fail
      refine Calls.mono (pick_any a1 (8 * n) h1 (by omega) (by omega) _) ?_
      rintro e w2 ⟨k, rfl, hkn, rfl⟩
      have hsh := hown.shape
      have hne0 : z0 ≠ [] := by intro e; rw [e] at HN; have := HN.out; simp at this; omega
      rcases hsh with ⟨_, e⟩ | ⟨g, cap, rfl, hcap, hg, hgl, hfr, hc⟩
      · exact absurd e hne0
      rw [← HN.out] at hcap hc ⊢
      obtain ⟨q, hq⟩ : ∃ q, q = k / 8 := ⟨_, rfl⟩
      obtain ⟨r, hr⟩ : ∃ r, r = k % 8 := ⟨_, rfl⟩
      have hqi : (k : Int) / 8 = (q : Int) := by omega
      have hri : (k : Int) % 8 = (r : Int) := by omega
      have hqn : q < n := by omega
      have hr8 : r < 8 := by omega
      obtain ⟨x, hx⟩ : ∃ x, x = z0.getD q 0 := ⟨_, rfl⟩
      have hcq := hc q hqn
      have hfq := hfr q
      rw [← hx] at hcq
      have hx1 : x < 256 := by rw [hx]; exact HV.out.1 _ (getD_mem z0 q (by rw [← HN.out]; exact hqn))
      have hp8 : 2 ^ r < 256 := by
        have : 2 ^ r ≤ 2 ^ 7 := Nat.pow_le_pow_right (by decide) (by omega)
        omega
      have hvx : bits .xor .u8 (x : Int) (((2 ^ r : Nat)) : Int) = ((x ^^^ 2 ^ r : Nat) : Int) := u8_xor_nat x _ hx1 hp8
      have hy1 : x ^^^ 2 ^ r < 256 := xor_byte _ _ hx1 hp8
      have hyne := xor_ne x r
      have hB1 := (hown.bs.setAt (q := q) (y := x ^^^ 2 ^ r) (by rw [← HN.out]; exact hqn) rfl hy1)
      have hA1 := HV.out.but ((But.of (R := fun _ => False) hb1).setCell (p := ⟨g, q, none⟩) (fun h => by have h' : g < w.heap.size := h; omega) (.int .u8 ((x ^^^ 2 ^ r : Nat) : Int))) (fun _ _ _ h => h)
      have HZ : Hid (z0.set q (x ^^^ 2 ^ r) ≠ z0) := by
        intro e
        have e2 := congrArg (fun l => l.getD q 0) e
        have hql : q < z0.length := by rw [← HN.out]; exact hqn
        simp [List.getD, hql] at e2
        simp [List.getD, hql] at hx
        rw [← hx] at e2
        exact hyne e2
      generalize x ^^^ 2 ^ r = y at *
      have HB := Hid.mk' hB1
      have HA := Hid.mk' hA1
      have HQ := Hid.mk' ((But.of (R := fun _ => False) hb1).setCell (p := ⟨g, q, none⟩) (fun h => by have h' : g < w.heap.size := h; omega) (.int .u8 (y : Int)))
      clear hB1 hA1 hown hc hfr hx hyne hq hr hne0 HCO
      have hvz : bits .xor .u8 (x : Int) ((2 : Int) ^ r % 256) = (y : Int) := by
        have e : (2 : Int) ^ r = ((2 ^ r : Nat) : Int) := by simp
        rw [e, Int.emod_eq_of_lt (Int.natCast_nonneg _) (by exact_mod_cast hp8)]; exact hvx
      clear hvx
      go_wp2_with fail
      have hd1 : ¬ z0 = z0.set q y := fun e => HZ.out e.symm
      have hd2 : ¬ z0.set q y = z0 := HZ.out
      obtain ⟨W3, hW3⟩ : ∃ W3, W3 = w2.setCell ⟨g, q, none⟩ (.int .u8 (y : Int)) := ⟨_, rfl⟩
      rw [← hW3] at HA HB HQ ⊢
      rw [← HN.out] at HB
      have HS1 := msame_any HA.out HB.out
      rw [decide_eq_false hd1] at HS1
      have HS2 : Hid (∀ d, Calls Tryd.prog 18 #[.slice (some ⟨g, 0, none⟩) n cap, .slice a0 n c0] (W3.drewN d) fun e w' => e = .returned (.bool false) ∧ ∃ d', w' = (W3.drewN d).drewN d') := fun d => by
        have h := msame_any (HB.out.drewN d) (HA.out.drewN d)
        rw [decide_eq_false hd2] at h; exact h
      clear hd1 hd2 HZ hW3 hcq hfq hvz HB
      obtain ⟨-, -, ⟨e, -⟩ | ⟨-, b, off, cc, e, hcc, hbl, hcell⟩⟩ := HA.out
      · have := HN.out; rw [e] at this; simp at this; omega
      simp only [Value.slice.injEq] at e
      obtain ⟨rfl, -, rfl⟩ := e
      rw [← HN.out] at hcc
      have hb3 : Bs W3 (.slice (some ⟨b, off, none⟩) (n - 1) c0) (z0.take (n - 1)) := by
        have hlt : (z0.take (n - 1)).length = n - 1 := by rw [List.length_take, ← HN.out]; omega
        refine ⟨fun z hz => HA.out.1 z (List.mem_of_mem_take hz), by rw [hlt]; omega, ?_⟩
        by_cases h1 : n = 1
        · left
          refine ⟨?_, .inr ⟨⟨b, off, none⟩, c0, by rw [h1]⟩⟩
          exact List.eq_nil_of_length_eq_zero (by rw [hlt]; omega)
        · right
          refine ⟨by rw [hlt]; omega, b, off, c0, by rw [hlt], by rw [hlt]; omega, hbl, fun i hi => ?_⟩
          rw [hlt] at hi
          rw [hcell i (by rw [← HN.out]; omega)]
          simp [List.getD, hi]
      have hd3 : ¬ z0 = z0.take (n - 1) := by
        intro e
        have := congrArg List.length e
        rw [List.length_take, ← HN.out] at this
        omega
      have HS3 : Hid (∀ d, Calls Tryd.prog 18 #[.slice (some ⟨b, off, none⟩) n c0, .slice (some ⟨b, off, none⟩) (n - 1) c0] (W3.drewN d) fun e w' => e = .returned (.bool false) ∧ ∃ d', w' = (W3.drewN d).drewN d') := fun d => by
        have h := msame_any (HA.out.drewN d) (hb3.drewN d)
        rw [decide_eq_false hd3] at h; exact h
      have hcut : ∀ w, (Instr.sliceAt 22 (.slice (some ⟨b, off, none⟩) n c0) none (some (.int .i64 ((n : Int) - 1))) none).run Tryd.prog w = .ok (.slice (some ⟨b, off, none⟩) (n - 1) c0) w := by
        intro w
        have h := cutS_h b off n c0 (n - 1) (by omega) w
        rw [show ((n - 1 : Nat) : Int) = (n : Int) - 1 by omega] at h
        exact h
      clear hd3 hb3 hcell
      refine Calls.mono HS1 ?_
      rintro e w3 ⟨rfl, d3, rfl⟩
      go_wp2_with fail
      refine Calls.mono (HS2.out _) ?_
      rintro e w3 ⟨rfl, d4, rfl⟩
      go_wp2_with fail
      refine Calls.mono (HS3.out _) ?_
      rintro e w3 ⟨rfl, d5, rfl⟩
      go_wp2_with fail
      refine Calls.mono (HAW.out _ HQ.out.drewN) ?_
      rintro e w4 ⟨rfl, hb4⟩
      go_wp2
      go_ret
      exact ⟨rfl, (HQ.out.drewN.trans hb4).below (Nat.le_refl _) (fun _ _ h => h)⟩
end Go.Proofs.YtkelfjpnjhjmoaaDoor
