/- What the laws ask besides: awake. -/
import Derived.Test.YtdlalpklopnpjaaAesNew
import Derived.Test.YtdlalpklopnpjaaAesComp
import Derived.Test.YtdlalpklopnpjaaRefBytes
import Derived.Test.YtdlalpklopnpjaaGuards
namespace Go.Proofs.Ytdlalpklopnpjaa
open Go.RowKit

def rise (j : Nat) : B8 := BitVec.ofNat 8 (17 * j)
theorem rise_all : mk16 rise = plain := by decide
theorem b8_rise (k : Nat) (h : k < 16) : (b8 (rise k) : Int) = 17 * (k : Int) := by
  unfold rise
  rw [b8_of _ (by omega)]; omega
theorem key16_nts : nts key16 = List.range 16 := by decide
theorem key32_nts : nts key32 = List.range 32 := by decide
theorem range_next (k : Nat) : List.range (k + 1) = List.range k ++ [k] := List.range_succ
set_option maxRecDepth 100000 in
set_option maxHeartbeats 2000000 in
theorem awake_any (w : World) :
    Calls Try.prog 12 #[] w fun e w' => e = .returned (.bool true) ∧ But (fun _ => False) w w' := by
  obtain ⟨i0, hi, hz0, hz1, hz2⟩ := info_parts u8info
  have hz := zero16
  obtain ⟨Z, hZ⟩ : ∃ Z, Z = (u8s (List.replicate 16 0)).toArray := ⟨_, rfl⟩
  rw [← hZ] at hz
  have HZ := Hid.mk' hZ
  clear hZ
  obtain ⟨g, hg⟩ : ∃ g, g = w.heap.size := ⟨_, rfl⟩
  have HG := Hid.mk' hg
  have HB0 : Hid (Blk (w.alloc (.cells Z 23)) g 23 (u8s (nts (fill (fun j => j) rise 0)))) := by
    show Blk _ _ _ _
    rw [HZ.out, fill_zero, nts_rep]; exact Blk.new hg.symm
  clear hg
  go_enter Try.func12, Try.ntmps12
  go_wp2
  rw [← HG.out]
  obtain ⟨W0, hW0⟩ : ∃ W0, W0 = w.alloc (.cells Z 23) := ⟨_, rfl⟩
  rw [← hW0] at HB0 ⊢
  have HT0 : Hid (But (fun _ => False) w W0) := by show But _ _ _; rw [hW0]; exact (But.refl _ w).alloc _
  clear hW0 hz HZ
  go_loopw [1, 3] (fun o i wr => ∃ k : Nat, k ≤ 16 ∧ i = .int .i64 k ∧ Ow wr (g + 1) o (List.range k) ∧ Blk wr g 23 (u8s (nts (fill (fun j => j) rise k))) ∧ But (fun _ => False) w wr) (fun _ i _ => 16 - (intOf i).toNat)
  case atStart => exact ⟨0, by decide, rfl, Ow.nil _ _, HB0.out, HT0.out⟩
  case round =>
    obtain ⟨k, hk, rfl, ho, hb, hbut⟩ := hrel
    have HO := Hid.mk' ho
    have HB := Hid.mk' hb
    have HT := Hid.mk' hbut
    clear ho hb hbut HB0 HT0
    by_cases hlt : k < 16
    · have hki : (k : Int) < 16 := by omega
      have HR : Hid (wr.ownsRow (g + 1) 5 1 u1 k (u8s (List.range k))) := by have := HO.out.own; rw [List.length_range] at this; exact this
      have HGL : Hid (g + 1 ≤ wr.heap.size) := HB.out.lt
      go_upto_region 7 with (at_builtin; refine wpList_append_own _ rfl _ _ 22 rfl (g + 1) 5 i0 (.int .u8 0) 1 1 Try.underlying22 hi hz0 hz1 hz2 rfl (by decide) _ _ _ rfl (HR.out.alloc _) ⟨wr.heap.size, 0, none⟩ 1 1 [.int .u8 (k : Nat)] rfl rfl (cell_new _ _ _) (by intro u hu; simp at hu; subst hu; rfl) (by unfold maxLen; omega) (by omega) (by simp; have := HGL.out; omega) ?_; intro v' w2 hown' hgrow' hnil')
      have hb2 : But (fun j => g + 1 ≤ j) wr w2 := ((But.refl _ wr).alloc _).grown hgrow' (fun j hj _ => (HO.out.ge j hj).1)
      have HB2 := Hid.mk' (HB.out.but hb2 (show ¬ (g + 1 ≤ g) by omega))
      have HT2 := Hid.mk' (HT.out.then hb2 (fun i hi e => by have := HG.out; omega))
      have HO2 : Hid (Ow w2 (g + 1) v' (List.range (k + 1))) := by
        rw [range_next]
        exact HO.out.push (by omega) (by rw [List.length_range]; omega) (by rw [List.length_range]; exact hown')
      clear hb2 hown' hgrow' hnil' HO HB HT HR
      have c1 := blk_nts HB2.out k (by rw [fill_len]; exact hlt)
      have f1 := HB2.out.free k
      generalize at8 (fill (fun j => j) rise k) k = Y at c1
      have hr := b8_rise k hlt
      go_wp2
      refine ⟨⟨k + 1, by omega, by go_num, ?_⟩, by simp [intOf]; omega⟩
      rw [← hr]
      have hs : But (· = g) w2 (w2.setCell ⟨g, k, none⟩ (.int .u8 (b8 (rise k) : Nat))) := (But.refl (· = g) w2).setCell (p := ⟨g, k, none⟩) (fun _ => rfl) _
      refine ⟨HO2.out.but hs (fun j hj _ e => by have := (HO2.out.ge j hj).1; omega), ?_, HT2.out.then hs (fun i hi e => by have := HG.out; omega)⟩
      rw [← fill_set rise k k hlt rfl (fun j _ h => h)]
      exact blk_nts_set HB2.out k _
    · have hk16 : k = 16 := by omega
      subst hk16
      rw [fill_all (fun j h => h), rise_all] at HB
      rw [← key16_nts] at HO
      have HBS := Hid.mk' HO.out.bs
      obtain ⟨ao, cap, hv, -, -⟩ := HBS.out.gen
      have hkl : (nts key16).length = 16 := by rw [nts_len]; rfl
      rw [hkl] at hv
      subst hv
      clear HO
      have HPN : Hid ((nts plain).length = 16) := by show _ = _; rw [nts_len]; rfl
      go_wp2_with fail
      refine Calls.mono (anew_any HBS.out (.inl rfl)) ?_
      rintro e w2 ⟨gc, gb, gw, rfl, hcph, -, hbut2⟩
      have HC := Hid.mk' hcph
      have HB2 := Hid.mk' (HB.out.but hbut2 (fun h => h))
      have HT2 := Hid.mk' (HT.out.trans hbut2)
      clear hcph hbut2 HB HT HBS
      go_wp2_with (first
        | (refine wpList_load_u8s_g Try.underlying23 i23 rfl _ rfl g (nts plain) HPN.out rfl HB2.out ?_)
        | fail)
      refine Calls.mono (encrypt_any (b := plain) HC.out rfl) ?_
      rintro e w3 ⟨rfl, hbut3⟩
      rw [enc_16]
      obtain ⟨O, hO⟩ : ∃ O, O = (u8s (nts out16)).toArray := ⟨_, rfl⟩
      have hix : Sem.run Try.prog (Instr.index 23 (.agg O) (.int .i64 0)) w3 = .ok (.int .u8 105) w3 := by rw [hO]; exact rfl
      rw [← hO]
      have HT3 := Hid.mk' (HT2.out.trans hbut3)
      clear hO hbut3
      go_wp2
      go_ret
      exact ⟨rfl, HT3.out⟩
end Go.Proofs.Ytdlalpklopnpjaa
