/- What the laws ask besides: great. -/
import Derived.Test.YthpgjbblbhjndaaDoorGhActs
namespace Go.Proofs.YthpgjbblbhjndaaDoor
open Go.RowKit

def GSmall (a : GA) : Prop := a.2.1.length ≤ 10000 ∧ a.2.2.2.2.2.1.length ≤ 10000 ∧ a.2.2.2.2.2.2.length ≤ 10000
/-- What great tells: whether all is small. -/
structure GTold (w : World) (n : Nat) (A : Nat → GA) (b : Bool) (w' : World) : Prop where
  grow : Grow w w'
  small : b = false → ∀ i, i < n → i < 300 → GSmall (A i)
def GreatIs (w : World) (n : Nat) (A : Nat → GA) (e : Ending) (w' : World) : Prop := ∃ b, e = .returned (.bool b) ∧ GTold w n A b w'
theorem wrapG (n : Int) (h1 : -9223372036854775808 ≤ n) (h2 : n < 9223372036854775808) : IntKind.i64.wrap n = n := by
  simp [IntKind.wrap, IntKind.bits, IntKind.signed]; omega
theorem GAct.three {w : World} {b o : Nat} {a : GA} (h : GAct w b o a) : ∃ ad cd aa ca az cs, w.cell? ⟨b, o + 1, none⟩ = some (.slice ad a.2.1.length cd) ∧ w.cell? ⟨b, o + 34 + 13, none⟩ = some (.slice aa a.2.2.2.2.2.1.length ca) ∧ w.cell? ⟨b, o + 34 + 14, none⟩ = some (.slice az a.2.2.2.2.2.2.length cs) := by
  obtain ⟨ud, va, vs, hc, hd, ht⟩ := h.ex
  obtain ⟨ad, cd, rfl, -, -⟩ := hd.gen
  obtain ⟨aa, ca, rfl, -, -⟩ := ht.aad.1.gen
  obtain ⟨az, cs, rfl, -, -⟩ := ht.sea.1.gen
  obtain ⟨k, dt, dg, e, nn, xa, xs⟩ := a
  have hdl : dg.length = 32 := h.dg.1
  have hnl : nn.length = 12 := ht.nl
  refine ⟨ad, cd, aa, ca, az, cs, hc 1 _ rfl, ?_, ?_⟩
  · have := hc 47 (.slice aa xa.length ca) (by
      show ((.int .i64 k : Value) :: _ :: (u8s dg ++ (.int .u32 (e : Int) :: (u8s nn ++ [_, _]))))[47]? = _
      rw [List.getElem?_cons_succ, List.getElem?_cons_succ, List.getElem?_append_right (by simp [u8s, hdl])]
      simp only [u8s, List.length_map, hdl]
      rw [show 45 - 32 = 12 + 1 from rfl, List.getElem?_cons_succ, List.getElem?_append_right (by simp [hnl])]
      simp [hnl])
    simpa [Nat.add_assoc] using this
  · have := hc 48 (.slice az xs.length cs) (by
      show ((.int .i64 k : Value) :: _ :: (u8s dg ++ (.int .u32 (e : Int) :: (u8s nn ++ [_, _]))))[48]? = _
      rw [List.getElem?_cons_succ, List.getElem?_cons_succ, List.getElem?_append_right (by simp [u8s, hdl])]
      simp only [u8s, List.length_map, hdl]
      rw [show 46 - 32 = 13 + 1 from rfl, List.getElem?_cons_succ, List.getElem?_append_right (by simp [hnl])]
      simp [hnl])
    simpa [Nat.add_assoc] using this
set_option maxRecDepth 100000 in
set_option maxHeartbeats 4000000 in
theorem great_any {w : World} {v : Value} {n : Nat} {A : Nat → GA} (h : GActs w v n A) :
    Calls Tryd.prog 9 #[v] w (GreatIs w n A) := by
  obtain ⟨hn, h⟩ := h
  have HP0 : Hid (0 < n → ∃ b off cap, v = .slice (some ⟨b, off, none⟩) n cap ∧ b < w.heap.size ∧ ∀ i, i < n → GAct w b (off + i * 49) (A i)) := by
    rcases h with ⟨h, _⟩ | ⟨_, h⟩
    · intro h0; omega
    · exact fun _ => h
  obtain ⟨ao, cap, rfl⟩ : ∃ ao cap, v = .slice ao n cap := by
    rcases h with ⟨rfl, h⟩ | ⟨_, b, off, cap, h, _⟩
    · exact h
    · exact ⟨_, _, h⟩
  have HPG : Hid (0 < n → ∃ b off, ao = some ⟨b, off, none⟩ ∧ b < w.heap.size ∧ ∀ i, i < n → GAct w b (off + i * 49) (A i)) := fun h0 => by
    obtain ⟨b, off, cp, e, h⟩   := HP0.out h0
    simp only [Value.slice.injEq] at e
    exact ⟨b, off, e.1, h⟩
  clear h HP0
  go_enter Tryd.func9, Tryd.ntmps9
  go_wp2
  go_loopw [3, 4] (fun s i wr => ∃ k N : Nat, k ≤ n ∧ k ≤ 300 ∧ i = .int .i64 k ∧ s = .int .i64 N ∧ N ≤ k * 30000 ∧ (∀ j, j < k → GSmall (A j)) ∧ Grow w wr) (fun _ i _ => n - (intOf i).toNat)
  case atStart => exact ⟨0, 0, Nat.zero_le _, by decide, rfl, rfl, by decide, fun j hj => by omega, But.refl _ _⟩
  case round =>
    obtain ⟨k, N, hkn, hk3, rfl, rfl, hN, hr, hg⟩ := hrel
    have HR := Hid.mk' hr
    have HG := Hid.mk' hg
    clear hr hg
    by_cases hlt : k < n
    · have hlti : (k : Int) < (n : Int) := by omega
      by_cases hk : k < 300
      · have hki : (k : Int) < 300 := by omega
        obtain ⟨b, off, rfl, hb, hc⟩ := HPG.out (by omega)
        have hrw := (hc k hlt).but hb HG.out
        obtain ⟨ad, cd, aa, ca, az, cs, c1, c2, c3⟩ := hrw.three
        have hlens := hrw.lens
        have HSM : Hid ((A k).2.1.length ≤ 10000 → (A k).2.2.2.2.2.1.length ≤ 10000 → (A k).2.2.2.2.2.2.length ≤ 10000 → GSmall (A k)) := fun h1 h2 h3 => ⟨h1, h2, h3⟩
        clear hc hrw
        generalize (A k).2.1.length = l1 at *
        generalize (A k).2.2.2.2.2.1.length = l2 at *
        generalize (A k).2.2.2.2.2.2.length = l3 at *
        obtain ⟨hl1, hl2, hl3⟩ := hlens
        by_cases h1 : l1 ≤ 10000
        · have h1i : ¬ (10000 : Int) < (l1 : Int) := by omega
          by_cases h2 : l2 ≤ 10000
          · have h2i : ¬ (10000 : Int) < (l2 : Int) := by omega
            by_cases h3 : l3 ≤ 10000
            · have h3i : ¬ (10000 : Int) < (l3 : Int) := by omega
              have HB := Hid.mk' hb
              clear hb
              go_upto_region 7 with fail
              refine region_chain [] [0, 1, 2, 3, 4, 5, 6, 7, 8, 9, 10, 11, 12, 13, 14, 15, 16, 17, 18, 19, 20, 21, 22, 23, 24] (Grow wr) (Grow wr) (by kernel_rfl) (by kernel_rfl) (fun _ _ h k => h.trans k) (fun _ h => h) ((But.refl _ wr).drew) ?_
              intro ι hne X hX
              have d1 : ∀ x, (X x).cell? ⟨b, off + k * 49 + 1, none⟩ = some (.slice ad l1 cd) := fun x => (World.cell?_of_block ((hX x).block b (Nat.lt_of_lt_of_le HB.out HG.out.size) (fun h => h))).trans c1
              have d2 : ∀ x, (X x).cell? ⟨b, off + k * 49 + 34 + 13, none⟩ = some (.slice aa l2 ca) := fun x => (World.cell?_of_block ((hX x).block b (Nat.lt_of_lt_of_le HB.out HG.out.size) (fun h => h))).trans c2
              have d3 : ∀ x, (X x).cell? ⟨b, off + k * 49 + 34 + 14, none⟩ = some (.slice az l3 cs) := fun x => (World.cell?_of_block ((hX x).block b (Nat.lt_of_lt_of_le HB.out HG.out.size) (fun h => h))).trans c3
              iterate 25 (refine still_step rfl (fun K hK => ?_); go_simp; refine hK _ ?_; clear hK K)
              refine still_nil ?_
              clear d1 d2 d3 hX hne
              intro w' hw'
              go_wp2
              refine ⟨⟨k + 1, N + l1 + l2 + l3, by omega, by omega, by go_num, ?_, by omega, fun j hj => ?_, HG.out.trans hw'⟩, by simp [intOf]; omega⟩
              · rw [wrapG ((N : Int) + (l1 : Int)) (by omega) (by omega), wrapG ((N : Int) + (l1 : Int) + (l2 : Int)) (by omega) (by omega), wrapG _ (by omega) (by omega)]; push_cast; rfl
              by_cases e : j < k
              · exact HR.out j e
              · obtain rfl : j = k := by omega
                exact HSM.out h1 h2 h3
            · have h3i : (10000 : Int) < (l3 : Int) := by omega
              go_wp2
              go_ret
              exact ⟨true, rfl, HG.out, nofun⟩
          · have h2i : (10000 : Int) < (l2 : Int) := by omega
            go_wp2
            go_ret
            exact ⟨true, rfl, HG.out, nofun⟩
        · have h1i : (10000 : Int) < (l1 : Int) := by omega
          go_wp2
          go_ret
          exact ⟨true, rfl, HG.out, nofun⟩
      · have hki : ¬ (k : Int) < 300 := by omega
        go_wp2
        go_ret
        exact ⟨_, rfl, HG.out, fun _ i hi h3 => HR.out i (by omega)⟩
    · have hge : ¬ ((k : Int) < (n : Int)) := by omega
      go_wp2
      go_ret
      exact ⟨_, rfl, HG.out, fun _ i hi h3 => HR.out i (by omega)⟩
end Go.Proofs.YthpgjbblbhjndaaDoor
