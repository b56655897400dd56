/- The device's short functions. -/
import Derived.Test.YtcikldklacgafaaDvMem
namespace Go.Proofs.Ytcikldklacgafaa
open Go.RowKit

theorem wrap64 (x : Int) (h1 : -9223372036854775808 ≤ x) (h2 : x ≤ 9223372036854775807) : IntKind.i64.wrap x = x := by
  simp [IntKind.wrap, IntKind.bits, IntKind.signed]; omega
/-- What an access leaves. -/
def Dev.acc (s : Dev) : Dev := { s with cnt := s.cnt + 1, arm := s.arm - 1, up := !(s.arm == 1) }
theorem access_any {w : World} {own : Owner} {gd : Nat} {s : Dev} (h : Dv w own gd s) (hu : s.up = true) (hc : s.cnt < 4611686018427387904) (ha : s.arm ≤ 9223372036854775807) :
    Calls Try.prog 30 #[.pointer (some ⟨gd, 0, none⟩)] w fun e w' => e = .returned (.bool (!(s.arm == 1))) ∧ DvTo w own gd s.acc w' := by
  obtain ⟨gs, vw, bm, vi, h⟩ := h
  have HH := Hid.mk' h
  have hb := h.blk
  rw [hu] at hb
  obtain ⟨V0, hV0⟩ : ∃ V, V = Value.slice (some ⟨gs, 0, none⟩) s.st.length s.st.length := ⟨_, rfl⟩
  rw [← hV0] at hb
  have HV := Hid.mk' hV0
  have HB := Hid.mk' hb
  have HU := Hid.mk' hu
  have c4 : w.cell? ⟨gd, 4, none⟩ = some (.int .i64 (s.cnt : Int)) := hb.cell 4
  have f4 : w.frozen? ⟨gd, 4, none⟩ = false := hb.free 4
  have f5 : w.frozen? ⟨gd, 5, none⟩ = false := hb.free 5
  have f6 : w.frozen? ⟨gd, 6, none⟩ = false := hb.free 6
  have c5 : w.cell? ⟨gd, 5, none⟩ = some (.int .i64 (s.arm : Int)) := hb.cell 5
  have c6 : w.cell? ⟨gd, 6, none⟩ = some (.bool true) := hb.cell 6
  have HFIN : Hid (∀ w' : World, ∀ c a : Nat, ∀ u : Bool, But (· = gd) w w' → Blk w' gd 55 [V0, vw, .map (some bm), vi, .int .i64 (c : Int), .int .i64 (a : Int), .bool u] → c = s.cnt + 1 → a = s.arm - 1 → u = (!(s.arm == 1)) → DvTo w own gd s.acc w') := fun w' c a u k hb e1 e2 e3 => by
    rw [HV.out] at hb
    subst e1 e2 e3
    exact HH.out.scalTo k hb
  have hcnt : ((s.cnt : Int) + 1) ≤ 4611686018427387904 := by omega
  have HBL : Hid (Blk (w.setCell ⟨gd, 4, none⟩ (.int .i64 ((s.cnt : Int) + 1))) gd 55 [V0, vw, .map (some bm), vi, .int .i64 ((s.cnt + 1 : Nat) : Int), .int .i64 (s.arm : Int), .bool true]) := hb.set 4 (.int .i64 ((s.cnt : Int) + 1))
  have HBT := Hid.mk' (But.set1 w gd 4 (.int .i64 ((s.cnt : Int) + 1)))
  clear h hb hV0 hu
  by_cases h0 : s.arm = 0
  · have e1 : ((s.arm : Int) == 0) = true := by simp [h0]
    have HA := Hid.mk' h0
    clear h0
    go_enter Try.func30, Try.ntmps30
    go_wp2
    go_ret
    have h0 := HA.out
    refine ⟨by simp [h0], HFIN.out _ (s.cnt + 1) s.arm true HBT.out HBL.out rfl (by omega) (by simp [h0])⟩
  · have e1 : ((s.arm : Int) == 0) = false := by
      have : ¬ ((s.arm : Int) = 0) := by omega
      simpa using this
    obtain ⟨m, hm⟩ : ∃ m, s.arm = m + 1 := ⟨s.arm - 1, by omega⟩
    have hmi : (s.arm : Int) - 1 = (m : Int) := by omega
    have hmi2 : IntKind.i64.wrap ((s.arm : Int) - 1) = (m : Int) := by rw [hmi]; exact wrap64 _ (by omega) (by omega)
    have HB2 : Hid (Blk ((w.setCell ⟨gd, 4, none⟩ (.int .i64 ((s.cnt : Int) + 1))).setCell ⟨gd, 5, none⟩ (.int .i64 (m : Int))) gd 55 [V0, vw, .map (some bm), vi, .int .i64 ((s.cnt + 1 : Nat) : Int), .int .i64 (m : Int), .bool true]) := HBL.out.set 5 (.int .i64 (m : Int))
    have HT2 := Hid.mk' (HBT.out.trans (But.set1 (w.setCell ⟨gd, 4, none⟩ (.int .i64 ((s.cnt : Int) + 1))) gd 5 (.int .i64 (m : Int))))
    by_cases h1 : m = 0
    · have e2 : ((m : Int) == 0) = true := by simp [h1]
      have HB3 : Hid (Blk (((w.setCell ⟨gd, 4, none⟩ (.int .i64 ((s.cnt : Int) + 1))).setCell ⟨gd, 5, none⟩ (.int .i64 (m : Int))).setCell ⟨gd, 6, none⟩ (.bool false)) gd 55 [V0, vw, .map (some bm), vi, .int .i64 ((s.cnt + 1 : Nat) : Int), .int .i64 (m : Int), .bool false]) := HB2.out.set 6 (.bool false)
      have HT3 := Hid.mk' (HT2.out.trans (But.set1 _ gd 6 (.bool false)))
      have HM := Hid.mk' hm
      have HM1 := Hid.mk' h1
      clear h0 h1 hm hmi
      go_enter Try.func30, Try.ntmps30
      go_wp2
      go_ret
      have h1 := HM.out
      have h2 := HM1.out
      refine ⟨by simp [h1, h2], HFIN.out _ (s.cnt + 1) m false HT3.out HB3.out rfl (by omega) (by simp [h1, h2])⟩
    · have e2 : ((m : Int) == 0) = false := by
        have : ¬ ((m : Int) = 0) := by omega
        simpa using this
      have HM := Hid.mk' hm
      have HM1 := Hid.mk' h1
      clear h0 h1 hm hmi
      go_enter Try.func30, Try.ntmps30
      go_wp2
      go_ret
      have h1 := HM.out
      have h2 := HM1.out
      refine ⟨by simp [h1, h2], HFIN.out _ (s.cnt + 1) m true HT2.out HB2.out rfl (by omega) (by simp [h1, h2])⟩
theorem up_any {w : World} {own : Owner} {gd : Nat} {s : Dev} (h : Dv w own gd s) : Calls Try.prog 22 #[.pointer (some ⟨gd, 0, none⟩)] w fun e w' => e = .returned (.bool s.up) ∧ w' = w := by
  obtain ⟨gs, vw, bm, vi, h⟩ := h
  have c0 : w.cell? ⟨gd, 6, none⟩ = some (.bool s.up) := h.blk.cell 6
  clear h
  go_enter Try.func22, Try.ntmps22
  go_wp2
  go_ret
  exact ⟨rfl, rfl⟩
theorem crash_any {w : World} {own : Owner} {gd : Nat} {s : Dev} (h : Dv w own gd s) : Calls Try.prog 19 #[.pointer (some ⟨gd, 0, none⟩)] w fun e w' => e = .returned (.tuple #[]) ∧ DvTo w own gd { s with arm := 0, up := false } w' := by
  obtain ⟨gs, vw, bm, vi, h⟩ := h
  have HH := Hid.mk' h
  have hb := h.blk
  have f5 : w.frozen? ⟨gd, 5, none⟩ = false := hb.free 5
  have f6 : w.frozen? ⟨gd, 6, none⟩ = false := hb.free 6
  have c5 : w.cell? ⟨gd, 5, none⟩ = some (.int .i64 (s.arm : Int)) := hb.cell 5
  have c6 : w.cell? ⟨gd, 6, none⟩ = some (.bool s.up) := hb.cell 6
  have HFIN : Hid (DvTo w own gd { s with arm := 0, up := false } ((w.setCell ⟨gd, 6, none⟩ (.bool false)).setCell ⟨gd, 5, none⟩ (.int .i64 0))) := by
    have h1 := (hb.set 6 (.bool false)).set 5 (.int .i64 0)
    exact h.scalTo ((But.set1 _ _ _ _).trans (But.set1 _ _ _ _)) h1
  clear h hb
  go_enter Try.func19, Try.ntmps19
  go_wp2
  go_end0
  exact ⟨rfl, HFIN.out⟩
theorem arm_any {w : World} {own : Owner} {gd : Nat} {s : Dev} (h : Dv w own gd s) (x : Int) : Calls Try.prog 18 #[.pointer (some ⟨gd, 0, none⟩), .int .i64 x] w fun e w' => e = .returned (.tuple #[]) ∧ DvTo w own gd { s with arm := x.toNat } w' := by
  obtain ⟨gs, vw, bm, vi, h⟩ := h
  have hb := h.blk
  have f5 : w.frozen? ⟨gd, 5, none⟩ = false := hb.free 5
  have c5 : w.cell? ⟨gd, 5, none⟩ = some (.int .i64 (s.arm : Int)) := hb.cell 5
  have HFIN : Hid (∀ y : Int, y = (x.toNat : Int) → DvTo w own gd { s with arm := x.toNat } (w.setCell ⟨gd, 5, none⟩ (.int .i64 y))) := fun y hy => by
    have h1 := hb.set 5 (.int .i64 y)
    rw [hy] at h1 ⊢
    exact h.scalTo (But.set1 _ _ _ _) h1
  clear h hb
  by_cases hx : x < 0
  · have hx2 : ¬ (0 ≤ x) := by omega
    go_enter Try.func18, Try.ntmps18
    go_wp2
    go_end0
    exact ⟨rfl, HFIN.out _ (by omega)⟩
  · have hx2 : 0 ≤ x := by omega
    go_enter Try.func18, Try.ntmps18
    go_wp2
    go_end0
    exact ⟨rfl, HFIN.out _ (by omega)⟩
theorem spend_any {w : World} {own : Owner} {gd : Nat} {s : Dev} (h : Dv w own gd s) (hc : s.cnt < 4611686018427387904) (ha : s.arm ≤ 9223372036854775807) :
    Calls Try.prog 21 #[.pointer (some ⟨gd, 0, none⟩)] w fun e w' => e = .returned (.bool (s.up && !(s.arm == 1))) ∧ DvTo w own gd (if s.up then s.acc else s) w' := by
  have HD := Hid.mk' h
  have HAC := Hid.mk' (fun hu => access_any h hu hc ha)
  obtain ⟨gs, vw, bm, vi, h⟩ := h
  have c6 : w.cell? ⟨gd, 6, none⟩ = some (.bool s.up) := h.blk.cell 6
  clear h
  cases hu : s.up with
  | true =>
    rw [hu] at c6
    have HA2 := Hid.mk' (HAC.out hu)
    clear hu HAC
    generalize (s.arm == 1) = q at *
    go_enter Try.func21, Try.ntmps21
    go_wp2_with fail
    refine Calls.mono HA2.out ?_
    rintro e w' ⟨rfl, hto⟩
    have HTO := Hid.mk' hto
    clear hto
    go_wp2
    go_ret
    exact ⟨by simp, HTO.out⟩
  | false =>
    rw [hu] at c6
    clear HAC hu
    go_enter Try.func21, Try.ntmps21
    go_wp2
    go_ret
    exact ⟨by simp, by simpa using HD.out.same (But.refl _ _)⟩
end Go.Proofs.Ytcikldklacgafaa
