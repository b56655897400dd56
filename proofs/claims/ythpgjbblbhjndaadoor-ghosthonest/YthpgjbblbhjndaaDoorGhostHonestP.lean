/- GhostHonest: the walk. -/
import Derived.Test.YthpgjbblbhjndaaDoorGhGreat
import Derived.Test.YthpgjbblbhjndaaDoorGhostNilP
namespace Go.Proofs.YthpgjbblbhjndaaDoor
open Go.RowKit

theorem GAct.data {w : World} {b o : Nat} {a : GA} (h : GAct w b o a) : ∃ ad cd, w.cell? ⟨b, o + 1, none⟩ = some (.slice ad a.2.1.length cd) ∧ Bs w (.slice ad a.2.1.length cd) a.2.1 := by
  obtain ⟨ud, va, vs, hc, hd, -⟩ := h.ex
  obtain ⟨ad, cd, rfl, -, -⟩ := hd.gen
  exact ⟨ad, cd, hc 1 _ rfl, hd⟩
/-- What a log holds behind k hashes. -/
def HP (A : Nat → GA) (k : Nat) : List Pr := (List.range k).map fun i => ((A i).2.1, digest (A i).2.1)
theorem HP_len (A : Nat → GA) (k : Nat) : (HP A k).length = k := by simp [HP]
theorem HP_next (A : Nat → GA) (k : Nat) : HP A (k + 1) = HP A k ++ [((A k).2.1, digest (A k).2.1)] := by simp [HP, List.range_succ]
theorem HP_mem {A : Nat → GA} {k : Nat} {p : Pr} (h : p ∈ HP A k) : ∃ i, i < k ∧ p = ((A i).2.1, digest (A i).2.1) := by
  obtain ⟨i, hi, rfl⟩ := List.mem_map.1 h
  exact ⟨i, by simpa using hi, rfl⟩
theorem HP_at (A : Nat → GA) (k i : Nat) (h : i < k) : (HP A k).getD i p0 = ((A i).2.1, digest (A i).2.1) := by simp [HP, List.getD, h]
/-- The log behind the first k acts. -/
structure Hon (w wr : World) (gl : Nat) (A : Nat → GA) (k : Nat) : Prop where
  ex : ∃ own, LgN w wr own gl (HP A k) [] []
set_option maxRecDepth 100000 in
set_option maxHeartbeats 8000000 in
theorem ghostHonest_walk (v0 : Value) (n : Nat) (A : Nat → GA) (w : World) (hk : Kw w) (hh : Hw w) (h0 : GActs w v0 n A) :
    Calls Tryd.prog 7 #[v0] w fun e w' => e = .returned (.bool true) ∧ Below w.heap.size w w' := by
  have HGR := Hid.mk' (great_any h0)
  obtain ⟨hn, h⟩ := h0
  have HP0 : Hid (0 < n → ∃ b off cap, v0 = .slice (some ⟨b, off, none⟩) n cap ∧ b < w.heap.size ∧ ∀ i, i < n → GAct w b (off + i * 49) (A i)) := by
    rcases h with ⟨h, _⟩ | ⟨_, h⟩
    · intro h0; omega
    · exact fun _ => h
  obtain ⟨ao, cap, rfl⟩ : ∃ ao cap, v0 = .slice ao n cap := by
    rcases h with ⟨rfl, h⟩ | ⟨_, b, off, cap, h, _⟩
    · exact h
    · exact ⟨_, _, h⟩
  have HPG : Hid (0 < n → ∃ b off, ao = some ⟨b, off, none⟩ ∧ b < w.heap.size ∧ ∀ i, i < n → GAct w b (off + i * 49) (A i)) := fun h0 => by
    obtain ⟨b, off, cp, e, h⟩ := HP0.out h0
    simp only [Value.slice.injEq] at e
    exact ⟨b, off, e.1, h⟩
  have HK := Hid.mk' hk
  have HH := Hid.mk' hh
  clear h HP0 hk hh
  go_enter Tryd.func7, Tryd.ntmps7
  go_wp2_with fail
  refine Calls.mono HGR.out ?_
  rintro e w1 ⟨bb, rfl, hb1⟩
  have HG1 := Hid.mk' hb1.grow
  cases bb with
  | true =>
    clear hb1 HGR
    go_wp2_with fail
    refine Calls.mono (awake_any w1) ?_
    rintro e w2 ⟨rfl, hg2⟩
    go_wp2
    go_ret
    exact ⟨rfl, (HG1.out.trans hg2).below (Nat.le_refl _) (fun _ _ h => h)⟩
  | false =>
    have HSM := Hid.mk' (hb1.small rfl)
    clear hb1 HGR
    go_wp2_with fail
    refine Calls.mono (new_any (w := w1) (fun _ => .none) (fun _ _ => rfl)) ?_
    rintro e w2 ⟨gl, rfl, hgl, hg2, hl2⟩
    have H2 : Hid (Hon w w2 gl A 0) := ⟨⟨_, hl2, HG1.out.trans hg2, fun b hb => by
      by_cases e : b = gl
      · have := HG1.out.size; omega
      · exact absurd (by unfold tagAt; rw [if_neg e]) hb⟩⟩
    clear hl2 hg2 hgl HG1
    go_wp2
    go_loopw [4] (fun i wr => ∃ k : Nat, k ≤ n ∧ k ≤ 300 ∧ i = .int .i64 k ∧ Hon w wr gl A k) (fun i _ => n - (intOf i).toNat)
    case atStart => exact ⟨0, Nat.zero_le _, by decide, rfl, H2.out⟩
    case round =>
      clear H2
      obtain ⟨k, hkn, hk3, rfl, hon⟩ := hrel
      have HO := Hid.mk' hon
      clear hon
      rcases (by omega : (k < n ∧ k < 300) ∨ (¬ k < n) ∨ (k < n ∧ ¬ k < 300)) with ⟨hlt, hk⟩ | hlt | ⟨hlt, hk⟩
      · have hlti : (k : Int) < (n : Int) := by omega
        have hki : (k : Int) < 300 := by omega
        obtain ⟨b, off, rfl, hb, hc⟩ := HPG.out (by omega)
        obtain ⟨own, hL⟩ := HO.out.ex
        have hrw := (hc k hlt).but hb hL.grow
        obtain ⟨ad, cd, c1, hbs⟩ := hrw.data
        have hl1 := (HSM.out k hlt hk).1
        have HHS : Hid (Calls Tryd.prog 23 #[.pointer (some ⟨gl, 0, none⟩), .slice (some ⟨wr.heap.size, 0, none⟩) 1 1] (wr.alloc (.cells #[.slice ad (A k).2.1.length cd] 31)) fun e w' => (∃ N, e = .returned (.agg N)) ∧ Hon w w' gl A (k + 1)) := by
          have hal : Grow wr (wr.alloc (.cells #[.slice ad (A k).2.1.length cd] 31)) := (But.refl _ wr).alloc _
          have hL2 := hL.then hal
          refine Calls.mono (hash_any hL2.lg (ps1 hbs) (HK.out.but hL2.grow (fun h => h)) (HH.out.but hL2.grow (fun h => h)) (by simp; omega) (by simp) (by simp) (fun ao n c e => by simp only [Value.slice.injEq] at e; omega) (by rw [HP_len]; omega)) ?_
          rintro e w' ⟨rfl, hto⟩
          obtain ⟨own', h', -⟩ := hL2.to hto
          refine ⟨⟨_, rfl⟩, own', ?_⟩
          rw [HP_next]
          simpa using h'
        clear hc hrw hbs hL hb
        generalize (A k).2.1.length = l1 at *
        go_wp2_with fail
        refine Calls.mono HHS.out ?_
        rintro e w' ⟨⟨N, rfl⟩, hon'⟩
        have HO' := Hid.mk' hon'
        clear hon' HHS
        go_wp2
        exact ⟨⟨k + 1, by omega, by omega, by go_num, HO'.out⟩, by simp [intOf]; omega⟩
      all_goals (
        first
          | (have h1 : ¬ ((k : Int) < (n : Int)) := by omega)
          | (have h1 : (k : Int) < (n : Int) := by omega
             have h2 : ¬ ((k : Int) < 300) := by omega)
        have HKN : Hid (∀ i, i < k → (A i).2.1.length ≤ 10000) := fun i hi => (HSM.out i (by omega) (by omega)).1
        obtain ⟨own, hL⟩ := HO.out.ex
        have HCL := Hid.mk' (clash_any hL.lg (fun p hp => by
          obtain ⟨i, hi, rfl⟩ := HP_mem hp
          have := HKN.out i hi
          show (A i).2.1.length ≤ _
          omega))
        have HL := Hid.mk' hL.grow
        rw [HP_len] at HCL
        clear hL HO HSM HPG
        go_wp2_with fail
        refine Calls.mono HCL.out ?_
        rintro e w3 ⟨hg3, ⟨rfl, -⟩ | ⟨i, j, va, vb, rfl, hF, hoa, hob⟩⟩
        · have HG3 := Hid.mk' (HL.out.trans hg3)
          clear hg3 HCL
          unfold noClash
          go_wp2_with fail
          refine Calls.mono (awake_any w3) ?_
          rintro e w4 ⟨rfl, hg4⟩
          go_wp2
          go_ret
          exact ⟨rfl, (HG3.out.trans hg4).below (Nat.le_refl _) (fun _ _ h => h)⟩
        · have HG3 := Hid.mk' (HL.out.trans hg3)
          clear hg3 HCL
          have hi : i < k := Nat.lt_trans hF.1 hF.2.1
          have hj : j < k := hF.2.1
          have hck := hF.2.2.1
          unfold ck at hck
          rw [HP_at A k i hi] at hoa hck
          rw [HP_at A k j hj] at hob hck
          have hck := of_decide_eq_true hck
          simp only at hck hoa hob
          have hla := HKN.out i hi
          have hlb := HKN.out j hj
          generalize (A i).2.1 = xa at *
          generalize (A j).2.1 = xb at *
          have hba := hoa.bs
          have hbb := hob.bs
          obtain ⟨aa, ca, rfl, -, -⟩ := hba.gen
          obtain ⟨ab, cb, rfl, -, -⟩ := hbb.gen
          obtain ⟨N, hN⟩ : ∃ N, N = (u8s (digest xa)).toArray := ⟨_, rfl⟩
          have HOA : Hid (∀ w', Grow w3 w' → Calls Tryd.prog 24 #[.slice aa xa.length ca] w' fun e w'' => e = .returned (.agg N) ∧ Grow w' w'') := fun w' hw => by
            have := refOf_any (hba.but hw (fun _ _ _ h => h)) (by omega)
            rw [← hN] at this
            exact this
          have HOB : Hid (∀ w', Grow w3 w' → Calls Tryd.prog 24 #[.slice ab xb.length cb] w' fun e w'' => e = .returned (.agg N) ∧ Grow w' w'') := fun w' hw => by
            have := refOf_any (hbb.but hw (fun _ _ _ h => h)) (by omega)
            rw [← hck.1, ← hN] at this
            exact this
          have HSA : Hid (∀ w', Grow w3 w' → Calls Tryd.prog 14 #[.slice aa xa.length ca, .slice ab xb.length cb] w' fun e w'' => e = .returned (.bool false) ∧ Grow w' w'') := fun w' hw => by
            refine Calls.mono (same_any (hba.but hw (fun _ _ _ h => h)) (hbb.but hw (fun _ _ _ h => h))) ?_
            rintro e w'' ⟨rfl, d, rfl⟩
            exact ⟨by rw [decide_eq_false hck.2], (But.refl _ _).drewN⟩
          have heq : ∀ w', (Op.equalIn 10000 35 (.agg N) (.agg N)).run Tryd.prog w' = .ok true w' := fun w' => by
            rw [hN]
            have := equalN (n := 32) ukt (digest xa) (digest xa) (digest_wf xa).1 (digest_wf xa).1 w'
            simpa using this
          clear hoa hob hba hbb hck hF hN hla hlb hi hj
          generalize xa.length = la at *
          generalize xb.length = lb at *
          go_wp2_with fail
          refine Calls.mono (HOA.out w3 (But.refl _ _)) ?_
          rintro e w4 ⟨rfl, hg4⟩
          have HG4 := Hid.mk' hg4
          clear hg4 HOA
          go_wp2_with fail
          refine Calls.mono (HOB.out w4 HG4.out) ?_
          rintro e w5 ⟨rfl, hg5⟩
          have HG5 := Hid.mk' (HG4.out.trans hg5)
          clear hg5 HOB HG4
          go_wp2_with fail
          refine Calls.mono (HSA.out w5 HG5.out) ?_
          rintro e w6 ⟨rfl, hg6⟩
          have HG6 := Hid.mk' (HG3.out.trans (HG5.out.trans hg6))
          clear hg6 HSA HG5
          go_wp2_with fail
          refine Calls.mono (awake_any w6) ?_
          rintro e w7 ⟨rfl, hg7⟩
          go_wp2
          go_ret
          exact ⟨rfl, (HG6.out.trans hg7).below (Nat.le_refl _) (fun _ _ h => h)⟩)
end Go.Proofs.YthpgjbblbhjndaaDoor
