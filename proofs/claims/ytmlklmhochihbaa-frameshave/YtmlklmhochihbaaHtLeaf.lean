/- Heats in memory; the short functions. -/
import Derived.Test.YtmlklmhochihbaaHtMath
import Derived.Test.YtmlklmhochihbaaIntMaps
import Derived.Test.YtmlklmhochihbaaOwnOps
import Derived.Deep.Cut
namespace Go.Proofs.Ytmlklmhochihbaa
open Go.RowKit

theorem isNaN_any (b : Nat) (w : World) (hb : b < 18446744073709551616) :
    Calls Try.prog 71 #[.float .f64 b] w fun e w' => e = .returned (.bool (nn b)) ∧ w' = w := by
  have h := ne_self b hb
  go_enter Try.func71, Try.ntmps71
  go_wp2
  go_ret
  exact ⟨rfl, rfl⟩
theorem eq_zero (b : Nat) (hb : b < 18446744073709551616) (hn : nn b = false) : (FloatKind.f64.format.order b 0 == some Ordering.eq) = (mg b == 0) := by
  have h := ord_eq b 0 hb (by omega)
  rw [hn, nn_zero, sm_zero] at h
  show (Ieee.double.order b 0 == some Ordering.eq) = _
  rw [h, Bool.eq_iff_iff]
  unfold sm
  split <;> simp
theorem right_any (b : Nat) (w : World) (hb : b < 18446744073709551616) :
    Calls Try.prog 62 #[.float .f64 b] w fun e w' => e = .returned (.float .f64 (rt b)) ∧ w' = w := by
  have HN := Hid.mk' (isNaN_any b w hb)
  cases hn : nn b
  · have h0 := eq_zero b hb hn
    rw [hn] at HN
    cases hm : (mg b == 0)
    · rw [hm] at h0
      rw [show rt b = b by unfold rt; rw [hn, hm]; rfl]
      clear hm hn
      go_enter Try.func62, Try.ntmps62
      go_wp2_with fail
      refine Calls.mono HN.out ?_
      rintro e w' ⟨rfl, rfl⟩
      go_wp2
      go_ret
      exact ⟨rfl, rfl⟩
    · rw [hm] at h0
      rw [show rt b = 0 by unfold rt; rw [hn, hm]; rfl]
      clear hm hn
      go_enter Try.func62, Try.ntmps62
      go_wp2_with fail
      refine Calls.mono HN.out ?_
      rintro e w' ⟨rfl, rfl⟩
      go_wp2
      go_ret
      exact ⟨rfl, rfl⟩
  · rw [hn] at HN
    rw [show rt b = 0 by unfold rt; rw [hn]; rfl]
    clear hn
    go_enter Try.func62, Try.ntmps62
    go_wp2_with fail
    refine Calls.mono HN.out ?_
    rintro e w' ⟨rfl, rfl⟩
    go_wp2
    go_ret
    exact ⟨rfl, rfl⟩
theorem rright_any (b : Nat) (w : World) (hb : b < 18446744073709551616) :
    Calls Try.prog 55 #[.float .f64 b] w fun e w' => e = .returned (.float .f64 (rt b)) ∧ w' = w := by
  have hs := ne_self b hb
  cases hn : nn b
  · have h0 := eq_zero b hb hn
    rw [hn] at hs
    cases hm : (mg b == 0)
    · rw [hm] at h0
      rw [show rt b = b by unfold rt; rw [hn, hm]; rfl]
      clear hm hn
      go_enter Try.func55, Try.ntmps55
      go_wp2
      go_ret
      exact ⟨rfl, rfl⟩
    · rw [hm] at h0
      rw [show rt b = 0 by unfold rt; rw [hn, hm]; rfl]
      clear hm hn
      go_enter Try.func55, Try.ntmps55
      go_wp2
      go_ret
      exact ⟨rfl, rfl⟩
  · rw [hn] at hs
    rw [show rt b = 0 by unfold rt; rw [hn]; rfl]
    clear hn
    go_enter Try.func55, Try.ntmps55
    go_wp2
    go_ret
    exact ⟨rfl, rfl⟩

/-- A heat as a value. -/
abbrev tol (b t : Nat) : Value := .agg #[.float .f64 b, .int .i64 (t : Int)]
def i64 (K : Int) : Prop := -9223372036854775808 ≤ K ∧ K ≤ 9223372036854775807
structure HtM (w : World) (gh gm half now : Nat) (T : Tb) : Prop where
  blk : Blk w gh 110 [.int .i64 (half : Int), .int .i64 (now : Int), .map (some gm)]
  map : ∃ M, Mq Try.prog 3 w gm M ∧ (∀ p ∈ M, ∃ K b t, p = (.int .i64 K, tol b t) ∧ T K = some (b, t)) ∧ ∀ K b t, T K = some (b, t) → ((.int .i64 K : Value), tol b t) ∈ M
  h1 : 1 ≤ half
  h2 : half ≤ 1000
  nw : now ≤ 1000000
  ok : Tok now T
section
variable {w w' : World} {gh gm half now : Nat} {T : Tb} {R : Nat → Prop}
theorem HtM.but (h : HtM w gh gm half now T) (k : But R w w') (h1 : ¬ R gh) (h2 : ¬ R gm) : HtM w' gh gm half now T := by
  obtain ⟨M, h3, h4, h5⟩ := h.map
  exact ⟨h.blk.but k h1, ⟨M, h3.but k h2, h4, h5⟩, h.h1, h.h2, h.nw, h.ok⟩
theorem HtM.grow (h : HtM w gh gm half now T) (k : Grow w w') : HtM w' gh gm half now T := h.but k (fun h => h) (fun h => h)
theorem HtM.lt (h : HtM w gh gm half now T) : gh < w.heap.size ∧ gm < w.heap.size := by
  obtain ⟨M, h3, -⟩ := h.map
  exact ⟨h.blk.lt, h3.lt⟩
theorem HtM.ne (h : HtM w gh gm half now T) : gh ≠ gm := by
  obtain ⟨M, h3, -⟩ := h.map
  obtain ⟨es, c, h4, -⟩ := h3.blk
  intro e
  have h5 := h.blk
  rw [e] at h5
  have h6 : w.heap[gm]? = _ := h5
  rw [h4] at h6
  cases h6
theorem keyIa : Go.Maps.Keyed Try.prog 3 := Go.Maps.int_keyed Try.underlying3
theorem keyOfIa (K : Int) (h : i64 K) : keyOf Try.prog 3 (.int .i64 K) = some (.int .i64 K) := by
  refine Go.Maps.keyOf_int_mk Try.underlying3 ?_
  have e1 : IntKind.i64.min = -9223372036854775808 := rfl
  have e2 : IntKind.i64.max = 9223372036854775807 := rfl
  simp only [Lit.wf, e1, e2, Bool.and_eq_true, decide_eq_true_eq]
  exact h
theorem ztol (w : World) : (zeroValue 113).run Try.prog w = .ok (tol 0 0) w := by kernel_rfl
/-- What the map tells of a key. -/
theorem HtM.look (h : HtM w gh gm half now T) {K : Int} (hK : i64 K) : ∃ b t, b < 18446744073709551616 ∧ t ≤ now ∧ rt (fd b ((now - t) / half)) = hof half now T K ∧ ∀ w', Grow w w' → (Instr.lookup 108 (.map (some gm)) (.int .i64 K) false).run Try.prog w' = .ok (tol b t) w' := by
  obtain ⟨M, h3, h4, h5⟩ := h.map
  have hl := fun w' (k : Grow w w') => (h3.but k (fun h => h)).look (t := 108) (et := 113) keyIa Try.underlying108 (ztol w') (keyOfIa K hK) false
  cases hT : T K with
  | some p =>
    obtain ⟨b, t⟩ := p
    have := h.ok.lt K b t hT
    exact ⟨b, t, this.1, this.2, by unfold hof; rw [hT], fun w' k => (hl w' k).1 _ (h5 K b t hT)⟩
  | none =>
    refine ⟨0, 0, by omega, Nat.zero_le _, by unfold hof; rw [hT, fd_nought]; rfl, fun w' k => (hl w' k).2 (fun p hp => ?_)⟩
    obtain ⟨K', b, t, rfl, e⟩ := h4 p hp
    intro e2
    simp only [Value.int.injEq, true_and] at e2
    rw [e2, hT] at e
    cases e
end
section
variable {w w' : World} {gh gm half now : Nat} {T : Tb} {R : Nat → Prop}
theorem made_nil (w : World) : Calls Try.prog 58 #[.pointer none] w fun e w' => e = .returned (.bool false) ∧ w' = w := by
  go_enter Try.func58, Try.ntmps58
  go_wp2
  go_ret
  exact ⟨rfl, rfl⟩
theorem made_any (h : HtM w gh gm half now T) : Calls Try.prog 58 #[.pointer (some ⟨gh, 0, none⟩)] w fun e w' => e = .returned (.bool true) ∧ w' = w := by
  obtain ⟨H, hH⟩ : ∃ H : Int, (half : Int) = H := ⟨_, rfl⟩
  have hH0 : 0 < H := by have := h.h1; omega
  have c0 : w.cell? ⟨gh, 0, none⟩ = some (.int .i64 H) := by rw [← hH]; exact h.blk.cell 0
  clear h hH
  go_enter Try.func58, Try.ntmps58
  go_wp2
  go_ret
  exact ⟨rfl, rfl⟩
end
end Go.Proofs.Ytmlklmhochihbaa
