/- What Written tells, written into one by one. -/
import Derived.Test.YtfgcbcopgikodaaAllD
namespace Go.Proofs.Ytfgcbcopgikodaa
open Go.RowKit

structure KT (w : World) (base : Nat) (ao : Option Addr) (m : Nat) (U : List Value) : Prop where
  len : U.length = m
  row : 0 < m → ∃ g, ao = some ⟨g, 0, none⟩ ∧ base ≤ g ∧ ∀ i u, U[i]? = some u → w.cell? ⟨g, i * 2 + 1, none⟩ = some u ∧ u.ownBlock ≠ some g
  el : ∀ u ∈ U, ∃ (ge n cap z : Nat) (T : TypeId) (R : List Value), u = .slice (some ⟨ge, 0, none⟩) n cap ∧ 0 < n ∧ base ≤ ge ∧ z < 256 ∧ Blk w ge T (.int .u8 (z : Int) :: R)
section
variable {w w' : World} {base m : Nat} {ao : Option Addr} {U : List Value}
theorem KT.grow (h : KT w base ao m U) (k : Grow w w') : KT w' base ao m U := by
  refine ⟨h.len, fun h0 => ?_, fun u hu => ?_⟩
  · obtain ⟨g, e, hg, hc⟩ := h.row h0
    exact ⟨g, e, hg, fun i u hu => ⟨grow_cell k (hc i u hu).1, (hc i u hu).2⟩⟩
  · obtain ⟨ge, n, cap, z, T, R, e, hn, hg, hz, hb⟩ := h.el u hu
    exact ⟨ge, n, cap, z, T, R, e, hn, hg, hz, hb.but k (fun h => h)⟩
theorem KT.set (h : KT w base ao m U) {i ge n cap y : Nat} (hi : U[i]? = some (.slice (some ⟨ge, 0, none⟩) n cap)) (hy : y < 256) : KT (w.setCell ⟨ge, 0, none⟩ (.int .u8 (y : Int))) base ao m U := by
  refine ⟨h.len, fun h0 => ?_, fun u hu => ?_⟩
  · obtain ⟨g, e, hg, hc⟩ := h.row h0
    refine ⟨g, e, hg, fun j u hu => ⟨?_, (hc j u hu).2⟩⟩
    have hne : ¬ g = ge := fun e' => (hc i _ hi).2 (by rw [e']; rfl)
    have hb := But.set1 w ge 0 (.int .u8 (y : Int))
    rcases Nat.lt_or_ge g w.heap.size with hl | hl
    · exact (World.cell?_of_block (hb.block g hl hne)).trans (hc j u hu).1
    · have h1 := (hc j u hu).1
      unfold World.cell? at h1
      rw [show w.heap[(⟨g, j * 2 + 1, none⟩ : Addr).block]? = none from Array.getElem?_eq_none hl] at h1
      simp at h1
  · obtain ⟨gf, nf, cf, z, T, R, e, hn, hg, hz, hb⟩ := h.el u hu
    by_cases hq : gf = ge
    · subst hq
      have h2 := hb.set 0 (.int .u8 (y : Int))
      exact ⟨gf, nf, cf, y, T, R, e, hn, hg, hy, h2⟩
    · exact ⟨gf, nf, cf, z, T, R, e, hn, hg, hz, hb.but (But.set1 w ge 0 _) hq⟩
end
theorem TlRow.kt {w : World} {base : Nat} {v : Value} {L : List TlE} (h : TlRow w base v L) (h0 : ∀ e ∈ L, 0 < e.1.2.length) : ∃ ao cap, v = .slice ao L.length cap ∧ KT w base ao L.length (L.map (·.2)) := by
  obtain ⟨ao, c, e, h4⟩ := (⟨h.own, fun _ _ => trivial⟩ : RowOf w (fun _ => True) 58 2 v L.length (L.flatMap tlc)).shape
  refine ⟨ao, c, e, by rw [List.length_map], fun hm => ?_, fun u hu => ?_⟩
  · obtain ⟨g, rfl, -, -, h6⟩ := h4 hm
    refine ⟨g, rfl, h.new g (by rw [e]; rfl), fun i u hu => ?_⟩
    rw [List.getElem?_map] at hu
    obtain ⟨d, hd, rfl⟩ := Option.map_eq_some_iff.1 hu
    exact ⟨h6 (i * 2 + 1) _ (flat_at L (fun e _ => tlc_len e) i d 1 _ hd rfl), h.row d (List.mem_of_getElem? hd) g (by rw [e]; rfl)⟩
  · obtain ⟨d, hd, rfl⟩ := List.mem_map.1 hu
    obtain ⟨g, cap, R, e', hg, hb, -⟩ := (h.el d hd).opn (h0 d hd)
    obtain ⟨z, zs, hz⟩ : ∃ z zs, d.1.2 = z :: zs := by
      cases hq : d.1.2 with
      | nil => exact absurd (h0 d hd) (by rw [hq]; simp)
      | cons z zs => exact ⟨z, zs, rfl⟩
    refine ⟨g, d.1.2.length, cap, z, 5, u8s zs ++ R, e', h0 d hd, hg, (h.el d hd).lt z (by rw [hz]; exact List.mem_cons_self), ?_⟩
    rw [hz] at hb
    exact hb
theorem Law.told2 {w0 wB w : World} {gp gd gx k : Nat} {F : Nat → Prop} {s0 : Dev} (h : Law w0 wB w gp gd gx F s0 k) (hk : k ≤ 1000) :
    Calls Try.prog 14 #[.pointer (some ⟨gd, 0, none⟩)] w fun e w' => ∃ ao m cap U, e = .returned (.slice ao m cap) ∧ Grow w w' ∧ m ≤ 1000 ∧ KT w' w.heap.size ao m U := by
  obtain ⟨s, x, ht, ha, hb, -⟩ := h.st.ex
  obtain ⟨own, hd, -, -⟩ := ht.dev
  refine (written_any hd (by have := hb.wr; omega)).mono ?_
  rintro e w'' ⟨⟨v, L', rfl, h4, h5⟩, h6⟩
  obtain ⟨ao, cap, rfl, hkt⟩ := h4.kt (fun e he => by
    have h7 : e.1 ∈ s.wr := by rw [← h5]; exact List.mem_map_of_mem he
    rw [(ht.ok.wr _ h7).2.1]; decide)
  have h8 := congrArg List.length h5
  rw [List.length_map] at h8
  exact ⟨ao, _, cap, _, rfl, h6, by have := hb.wr; omega, hkt⟩
theorem Law.read0 {w0 wB w : World} {gp gd gx k : Nat} {F : Nat → Prop} {s0 : Dev} (h : Law w0 wB w gp gd gx F s0 k) :
    Calls Try.prog 19 #[.pointer (some ⟨gd, 0, none⟩), .int .i64 0] w fun e w' => ∃ ao m cap c, e = .returned (.tuple #[.slice ao m cap, .int .i64 c]) ∧ Grow w w' ∧ m ≤ 256 ∧ Wri w' w' w.heap.size ao m := by
  obtain ⟨s, x, ht, ha, hb, -⟩ := h.st.ex
  refine (dread_all ht 0).mono ?_
  rintro e w' ⟨v, rfl, hnw, hg⟩
  obtain ⟨ao, cap, rfl, hw⟩ := hnw.wri
  exact ⟨ao, _, cap, _, rfl, hg, rbytes_len ht.ok 0, hw⟩
end Go.Proofs.Ytfgcbcopgikodaa
