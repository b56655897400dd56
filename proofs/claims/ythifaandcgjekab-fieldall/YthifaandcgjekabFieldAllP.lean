/- No box is its byte, nor the byte turned about, and no two bytes have one box. No condition. -/
import Derived.Test.YthifaandcgjekabFieldFrame
import Derived.Test.YthifaandcgjekabFieldBoxes
namespace Go.Proofs.Ythifaandcgjekab
open Go.ChangeShapes Go.WideShapes Go.ChangeAt Go.RowKit

abbrev bos (l : List Bool) : List Value := l.map Value.bool
theorem not_b8 (x : B8) : bits .xor .u8 IntKind.u8.max (b8 x : Int) = (b8 (~~~x) : Int) :=
  all8 (P := fun x => bits .xor .u8 IntKind.u8.max (b8 x : Int) = (b8 (~~~x) : Int)) (by decide +kernel) x
theorem bos_one : ∀ v ∈ bos (List.replicate 256 false), v.oneCell' = true := by
  intro v hv
  obtain ⟨x, _, rfl⟩ := List.mem_map.1 hv
  rfl
set_option maxRecDepth 100000 in
set_option maxHeartbeats 1000000 in
theorem fieldAll_walk (w : World) :
    Calls Try.prog 3 #[] w fun e w' => e = .returned (.bool true) ∧ Below w.heap.size w w' := by
  have hz : ∀ w : World, (zeroValue 24).run Try.prog w = .ok (.agg (bos (List.replicate 256 false)).toArray) w := fun _ => by kernel_rfl
  obtain ⟨Z, hZ⟩ : ∃ Z, Z = (bos (List.replicate 256 false)).toArray := ⟨_, rfl⟩
  rw [← hZ] at hz
  have HZ := Hid.mk' hZ
  clear hZ
  go_enter Try.func3, Try.ntmps3
  go_wp2_with fail
  refine Calls.mono (new_any w) ?_
  rintro e w2 ⟨rfl, hb, hbut⟩
  have HB := Hid.mk' hb
  have HBT := Hid.mk' hbut
  clear hb hbut
  have HP0 : Hid (Blk (w2.alloc (.cells Z 24)) w2.heap.size 24 ([] ++ bos (List.replicate 256 false) ++ [])) := by rw [HZ.out]; exact (List.append_nil _).symm ▸ Blk.new rfl
  go_wp2_with (first
    | (refine wpList_store_at rfl _ _ _ rfl w2.heap.size 0 (bos (List.replicate 256 false)) rfl (by show Value.agg Z = _; rw [HZ.out]) 24 [] _ [] HP0.out rfl rfl (by kernel_rfl) bos_one ?_; intro w3 hb3 hbut3))
  have hs2 := HBT.out.size
  have hgx := HB.out.lt
  have HB3 : Hid (Bxs w3 w.heap.size) := (HB.out.but ((But.refl (fun _ => False) _).alloc _) (fun h => h)).but hbut3 (by omega)
  have HBT3 : Hid (But (fun _ => False) w w3) := (HBT.out.alloc _).then hbut3 (fun i hi e => by omega)
  have HP3 : Hid (Blk w3 w2.heap.size 24 (bos (List.replicate 256 false))) := by
    have h := hb3
    rw [List.append_nil, List.nil_append] at h
    exact h
  obtain ⟨p, hp⟩ : ∃ p, p = w2.heap.size := ⟨_, rfl⟩
  rw [← hp] at HP3 hs2 hgx ⊢
  clear hb3 hbut3 hp HP0 HB HBT hz HZ
  obtain ⟨g, hg⟩ : ∃ g, g = w.heap.size := ⟨_, rfl⟩
  rw [← hg] at HB3 hgx hs2 ⊢
  have HGG := Hid.mk' hg
  clear hg
  go_loopw [3] (fun i wr => ∃ (k : Nat) (L : List Bool), k ≤ 256 ∧ i = .int .i64 k ∧ L.length = 256 ∧ (∀ x : B8, L[b8 x]? = some (decide (b8 (bk x) < k))) ∧ Bxs wr g ∧ Blk wr p 24 (bos L) ∧ But (fun _ => False) w wr) (fun i _ => 256 - (intOf i).toNat)
  case atStart => exact ⟨0, List.replicate 256 false, by decide, rfl, by simp, fun x => by rw [List.getElem?_replicate, if_pos (b8_lt x)]; rfl, HB3.out, HP3.out, HBT3.out⟩
  case round =>
    obtain ⟨k, L, hk, rfl, hL, hx, hbx, hbl, hbt⟩ := hrel
    have HX := Hid.mk' hx
    have HL := Hid.mk' hL
    have HBX := Hid.mk' hbx
    have HBL := Hid.mk' hbl
    have HBT := Hid.mk' hbt
    clear hx hL hbx hbl hbt
    by_cases hlt : k < 256
    · obtain ⟨I, rfl⟩ := b8_get k hlt
      have hlti : (b8 I : Int) < 256 := by omega
      have hne := bx_ne I
      have HKI := Hid.mk' (bk_bx I)
      have hfr := HBL.out.free (b8 (bx I))
      have hcell : wr.cell? ⟨p, b8 (bx I), none⟩ = some (.bool false) := by
        rw [HBL.out.cell, List.getElem?_map, HX.out (bx I), HKI.out]; simp
      have hs := b8_lt (bx I)
      have n1 : ((b8 (bx I) : Int) == (b8 I : Int)) = false := by
        rw [beq_eq_false_iff_ne]; intro e; exact hne.1 (b8_inj (by omega))
      have n2 : ((b8 (bx I) : Int) == bits .xor .u8 IntKind.u8.max (b8 I : Int)) = false := by
        rw [not_b8, beq_eq_false_iff_ne]; intro e; exact hne.2 (b8_inj (by omega))
      have n3 : ((b8 (bx I) : Int) == bits .xor .u8 (if IntKind.u8.signed = true then -1 else IntKind.u8.max) (b8 I : Int)) = false := n2
      clear hne
      go_wp2_with fail
      refine Calls.mono (box_any HBX.out I) ?_
      rintro e w1 ⟨rfl, hw⟩
      have hw' := hw.symm
      subst hw'
      go_wp2
      refine ⟨⟨b8 I + 1, L.set (b8 (bx I)) true, by omega, by go_num, by rw [List.length_set]; exact HL.out, ?_, HBX.out.but ((But.refl (· = p) wr).setCell (fun _ => rfl) _) (by omega), ?_, HBT.out.setCell (fun h => by have h' : p < w.heap.size := h; have := HGG.out; omega) _⟩, by simp [intOf]; omega⟩
      · intro x
        by_cases e : x = bx I
        · rw [e, List.getElem?_set_self (by rw [HL.out]; exact hs), HKI.out]; simp
        · have e2 : b8 (bx I) ≠ b8 x := fun h => e (b8_inj h.symm)
          have e3 : b8 (bk x) ≠ b8 I := fun h => e (by rw [← b8_inj h, bx_bk])
          rw [List.getElem?_set_ne e2, HX.out x]
          congr 1
          rw [decide_eq_decide]; omega
      · have h := HBL.out.set (b8 (bx I)) (.bool true)
        rw [show bos (L.set (b8 (bx I)) true) = (bos L).set (b8 (bx I)) (.bool true) by simp [bos, List.map_set]]
        exact h
    · have hk6 : k = 256 := by omega
      subst hk6
      go_wp2
      go_ret
      exact ⟨rfl, HBT.out.below (Nat.le_refl _) (fun _ _ h => h)⟩

set_option maxRecDepth 100000 in
theorem fieldAll_lifted (os : Os) (started : os.Started) (H : Type) (enc : TypeId × Value → H) :
    ReturnsInHanded {} Try.checked os 3 .any (Rows.fieldAllSpec.pre6 enc Try.prog Try.f3 Rows.fieldAllRow.domain false) (Rows.fieldAllSpec.post enc Try.prog Try.f3 false true false false) := by
  refine returnsInHanded_of_change (C := Try.checked) (by kernel_rfl) started (by kernel_rfl) Try.func3
    (ChangeSpec.witness6 (enc := enc) (C := Try.checked) false ⟨#[], #[], []⟩ 8 (by kernel_rfl) (by kernel_rfl) (by kernel_rfl) (by kernel_rfl)) ?_
  intro W base args ds gs before hval0 hW hcnd _
  have hval : ∀ (j : Nat) t v, Try.f3.params[j]? = some t → args[j]? = some v → Value.okWide Try.prog W .any base t v := hval0
  have hW' := hW
  obtain ⟨p, q, hA0, hV, rfl, hfz, hnd⟩ := hW
  have hA : DataW.TrodAll enc Try.prog W 0 (fun _ => true) true Try.f3.params.toList args.toList ds p := hA0
  rw [Try.params3] at hA hval
  obtain ⟨hargs, rfl, rfl⟩ := trodAll_nil hA
  obtain rfl : args = #[] := by cases args; simp_all
  obtain ⟨rfl, rfl⟩ := trodVars_none hV
  clear hA0 hval0
  refine (fieldAll_walk  W ).mono fun e W' ⟨he, bel⟩ => ?_
  subst he
  exact ⟨_, rfl, _, _, _, [], _, [], hW', trodAll_mk1 (shut_bool Try.underlying4 _), trodAll_mk0, rfl, bel.frame _, fun h => by cases h⟩

theorem fieldAll_holds : Rows.FieldAllSaid :=
  OpenClaim.holds_of_wide 3 Try.f3 rfl rfl rfl rfl rfl rfl rfl ⟨rfl, rfl, rfl, rfl, rfl⟩ rfl rfl rfl rfl rfl (by kernel_rfl) Try.func3 (by kernel_rfl)
    (of_decide_eq_true (by kernel_rfl)) (by unfold Func.isWrapper; first | (rw [if_pos (by decide +kernel)]; kernel_rfl) | (rw [if_neg (by decide +kernel)]; exact ⟨rfl, rfl⟩))
    (fun os started H enc _ => fieldAll_lifted os started H enc)
#print axioms fieldAll_holds
end Go.Proofs.Ythifaandcgjekab
