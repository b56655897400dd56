/- The reference's spill slots: a row of n. New, Of, Give. -/
import Derived.Test.YtehajgfjdmhdpaaSpMath
import Derived.Test.YtehajgfjdmhdpaaOwnRow
import Derived.Test.YtehajgfjdmhdpaaChain
import Derived.Test.YtehajgfjdmhdpaaLasts
import Derived.Deep.Cut
namespace Go.Proofs.Ytehajgfjdmhdpaa
open Go.RowKit

/-- A slot of the reference's as cells. -/
def rcl (o : Option (Int × En)) : List Value := match o with
  | some q => .bool false :: .int .i64 q.1 :: ecells q.2
  | none => .bool true :: .int .i64 0 :: ecells ⟨0, 0, 0⟩
theorem rcl_len (o : Option (Int × En)) : (rcl o).length = 5 := by cases o <;> rfl
theorem rcl_one (o : Option (Int × En)) : ∀ u ∈ rcl o, u.oneCell' = true := by
  intro u hu
  unfold rcl at hu
  cases o with
  | none =>
    rcases List.mem_cons.1 hu with rfl | hu
    · rfl
    rcases List.mem_cons.1 hu with rfl | hu
    · rfl
    exact ecells_one _ u hu
  | some q =>
    rcases List.mem_cons.1 hu with rfl | hu
    · rfl
    rcases List.mem_cons.1 hu with rfl | hu
    · rfl
    exact ecells_one _ u hu
theorem rcl_at0 (o : Option (Int × En)) : (rcl o)[0]? = some (.bool o.isNone) := by cases o <;> rfl
theorem rcl_at1 (o : Option (Int × En)) : ∃ z, (rcl o)[1]? = some (.int .i64 z) ∧ ∀ q, o = some q → z = q.1 := by
  cases o with
  | none => exact ⟨0, rfl, fun _ h => by cases h⟩
  | some q => exact ⟨q.1, rfl, fun _ h => by cases h; rfl⟩
theorem iRs : (Try.prog.info? 40).map (·.size) = some 5 := by kernel_rfl
theorem infRs : (Try.prog.info? 40).map (fun i => (i.zero, i.size, i.bytes)) = some (some (.agg #[.bool false, .int .i64 0, .int .u32 0, .int .u32 0, .int .u64 0]), 5, 32) := by kernel_rfl
/-- The row of the reference's slots: in block gr, with room for cap. -/
structure SrM (w : World) (gr cap n : Nat) (S : Sl) : Prop where
  blk : ∃ R, Blk w gr 40 (S.flatMap rcl ++ R)
  len : S.length = n
  hi : n ≤ 256
section
variable {w w' : World} {gr cap n : Nat} {S : Sl} {R : Nat → Prop}
theorem SrM.but (h : SrM w gr cap n S) (k : But R w w') (hr : ¬ R gr) : SrM w' gr cap n S := by
  obtain ⟨M, hM⟩ := h.blk
  exact ⟨⟨M, hM.but k hr⟩, h.len, h.hi⟩
theorem SrM.lt (h : SrM w gr cap n S) : gr < w.heap.size := by obtain ⟨M, hM⟩ := h.blk; exact hM.lt
theorem SrM.cell (h : SrM w gr cap n S) {i : Nat} {o : Option (Int × En)} (hi : S[i]? = some o) {c : Nat} {u : Value} (hc : (rcl o)[c]? = some u) : w.cell? ⟨gr, i * 5 + c, none⟩ = some u := by
  obtain ⟨M, hM⟩ := h.blk
  rw [hM.cell]
  have h1 := flat_at S (fun e _ => rcl_len e) i o c u hi hc
  rw [List.getElem?_append_left (List.getElem?_eq_some_iff.1 h1).1]
  exact h1
/-- A slot is stored into. -/
theorem SrM.store (h : SrM w gr cap n S) {i : Nat} (hi : i < n) (o : Option (Int × En)) : ∃ w', (storeVar 40 ⟨gr, i * 5, none⟩ (.agg (rcl o).toArray)).run Try.prog w = .ok () w' ∧ SrM w' gr cap n (S.set i o) ∧ But (· = gr) w w' := by
  obtain ⟨M, hM⟩ := h.blk
  have hl := h.len
  have e1 : S = S.take i ++ S[i] :: S.drop (i + 1) := by rw [List.getElem_cons_drop, List.take_append_drop]
  have e2 : S.set i o = S.take i ++ o :: S.drop (i + 1) := by rw [List.set_eq_take_append_cons_drop, if_pos (by omega)]
  have e0 : S.flatMap rcl = (S.take i).flatMap rcl ++ (rcl S[i] ++ (S.drop (i + 1)).flatMap rcl) := by
    rw [← List.flatMap_cons, ← List.flatMap_append, ← e1]
  have e3 : S.flatMap rcl ++ M = (S.take i).flatMap rcl ++ rcl S[i] ++ ((S.drop (i + 1)).flatMap rcl ++ M) := by
    rw [e0, List.append_assoc, List.append_assoc, List.append_assoc]
  have e4 : (S.set i o).flatMap rcl ++ M = (S.take i).flatMap rcl ++ rcl o ++ ((S.drop (i + 1)).flatMap rcl ++ M) := by
    rw [e2, List.flatMap_append, List.flatMap_cons, List.append_assoc, List.append_assoc, List.append_assoc]
  rw [e3] at hM
  obtain ⟨w2, h1, h2, h3⟩ := run_storeVar_at w gr (i * 5) 40 40 ((S.take i).flatMap rcl) (rcl S[i]) ((S.drop (i + 1)).flatMap rcl ++ M) (rcl o) hM (by rw [flat_len _ (fun e _ => rcl_len e), List.length_take]; congr 1; omega) (by rw [rcl_len, rcl_len]) (by rw [iRs, rcl_len]) (rcl_one o)
  rw [← e4] at h2
  exact ⟨w2, h1, ⟨⟨M, h2⟩, by rw [List.length_set]; exact hl, h.hi⟩, h3⟩
end
/-- What the reference's Of tells. -/
def rofI (S : Sl) (p : Int) : Int := match whoS S p with
  | some i => (i : Int)
  | none => -1
def rgivI (S : Sl) (p : Int) : Int := match slotS S p with
  | some i => (i : Int)
  | none => -1
section
variable {w w' : World} {gr cap n : Nat} {S : Sl} {R : Nat → Prop}
set_option maxRecDepth 100000 in
set_option maxHeartbeats 1000000 in
theorem rspof_any (h : SrM w gr cap n S) (p : Int) : Calls Try.prog 12 #[.slice (some ⟨gr, 0, none⟩) n cap, .int .i64 p] w fun e w' => e = .returned (.int .i64 (rofI S p)) ∧ w' = w := by
  have HR := Hid.mk' h
  have hnb : (n : Int) ≤ 256 := by have := h.hi; omega
  have HN : Hid (S.length = n) := h.len
  clear h
  go_enter Try.func12, Try.ntmps12
  go_wp2
  go_loopw [5] (fun iv wr => ∃ i : Nat, i ≤ n ∧ iv = .int .i64 i ∧ (∀ j, j < i → ∀ y, S[j]? ≠ some (some (p, y))) ∧ wr = w) (fun iv _ => n - (intOf iv).toNat)
  case atStart => exact ⟨0, Nat.zero_le _, rfl, fun j hj => absurd hj (by omega), rfl⟩
  case round =>
    obtain ⟨i, hin, rfl, hno, hwx⟩ := hrel
    have h2 := hwx.symm
    subst h2
    clear hwx
    have HNO := Hid.mk' hno
    clear hno
    by_cases hlt : i < n
    · have hlti : (i : Int) < (n : Int) := by omega
      obtain ⟨o, ho⟩ : ∃ o, S[i]? = some o := ⟨_, List.getElem?_eq_getElem (by have := HN.out; omega)⟩
      have d0 : w.cell? ⟨gr, i * 5, none⟩ = some (.bool o.isNone) := HR.out.cell ho (rcl_at0 o)
      obtain ⟨z, hz, hzq⟩ := rcl_at1 o
      have d1 : w.cell? ⟨gr, i * 5 + 1, none⟩ = some (.int .i64 z) := HR.out.cell ho hz
      have HST : (∀ y, o ≠ some (p, y)) → ∀ j, j < i + 1 → ∀ y, S[j]? ≠ some (some (p, y)) := fun hf j hj y => by
        rcases Nat.lt_succ_iff_lt_or_eq.1 hj with h1 | h1
        · exact HNO.out j h1 y
        · rw [h1, ho]; exact fun e => hf y (by simpa using e)
      have HST := Hid.mk' HST
      have HZQ := Hid.mk' hzq
      have HO := Hid.mk' ho
      clear ho hz hzq
      rcases o with _ | ⟨q, x⟩
      · have HS2 := Hid.mk' (HST.out (fun y e => by cases e))
        have d0' : w.cell? ⟨gr, i * 5, none⟩ = some (.bool true) := d0
        clear d0
        go_wp2
        exact ⟨⟨i + 1, by omega, by go_num, HS2.out, trivial⟩, by simp [intOf]; omega⟩
      · have d0' : w.cell? ⟨gr, i * 5, none⟩ = some (.bool false) := d0
        have hz2 : z = q := HZQ.out _ rfl
        subst hz2
        clear d0
        cases hzp : (z == p) with
        | false =>
          have HS2 := Hid.mk' (HST.out (fun y e => by
            simp only [Option.some.injEq, Prod.mk.injEq] at e
            rw [e.1] at hzp
            simp at hzp))
          go_wp2
          exact ⟨⟨i + 1, by omega, by go_num, HS2.out, trivial⟩, by simp [intOf]; omega⟩
        | true =>
          have HFD : Hid (rofI S p = (i : Int)) := by
            show rofI S p = _
            unfold rofI
            have e : z = p := by simpa using hzp
            have ho := HO.out
            rw [e] at ho
            rw [whoS_at ho HNO.out]
          go_wp2
          go_ret
          exact ⟨by rw [HFD.out]; rfl, rfl⟩
    · have HFD : Hid (rofI S p = -1) := by
        show rofI S p = _
        unfold rofI
        rw [whoS_no (fun j hj => HNO.out j (by have := HN.out; omega))]
      have hlti : ¬ ((i : Int) < (n : Int)) := by omega
      go_wp2
      go_ret
      exact ⟨by rw [HFD.out]; rfl, rfl⟩
end
end Go.Proofs.Ytehajgfjdmhdpaa
