/- Coldest. -/
import Derived.Test.YtmlklmhochihbaaHtNew
import Derived.Test.YtmlklmhochihbaaInts
namespace Go.Proofs.Ytmlklmhochihbaa
open Go.RowKit

/-- What Of tells, whatever memory is made. -/
structure Ofs (w : World) (f : Nat) (p : Value) (H : Int → Nat) : Prop where
  call : ∀ w', Grow w w' → ∀ K, i64 K → Calls Try.prog f #[p, .int .i64 K] w' fun e w'' => e = .returned (.float .f64 (H K)) ∧ Grow w' w''
  lt : ∀ K, H K < 18446744073709551616
theorem Ofs.grow {w w' : World} {f : Nat} {p : Value} {H : Int → Nat} (h : Ofs w f p H) (k : Grow w w') : Ofs w' f p H := ⟨fun w2 k2 => h.call w2 (k.trans k2), h.lt⟩
theorem ofs_nil (w : World) : Ofs w 63 (.pointer none) (fun _ => 0) :=
  ⟨fun w' _ K _ => (of_nil w' K).mono (fun e w'' h => ⟨h.1, by rw [h.2]; exact But.refl _ _⟩), fun _ => by decide⟩
theorem ofs_any {w : World} {gh gm half now : Nat} {T : Tb} (h : HtM w gh gm half now T) : Ofs w 63 (.pointer (some ⟨gh, 0, none⟩)) (hof half now T) :=
  ⟨fun _ k _ hK => of_any (h.grow k) hK, fun K => hof_lt h.ok K⟩
theorem coldest_none (w : World) (p v : Value) (h : ∃ ao cap, v = .slice ao 0 cap) : Calls Try.prog 52 #[p, v] w fun e w' => e = .returned (.tuple #[.int .i64 0, .bool false]) ∧ w' = w := by
  obtain ⟨ao, cap, rfl⟩ := h
  go_enter Try.func52, Try.ntmps52
  go_wp2
  exact bodyPost_ret (results_tmp2 rfl _ _ _) rfl ⟨rfl, rfl⟩
set_option maxRecDepth 100000 in
set_option maxHeartbeats 1000000 in
theorem coldest_some {w : World} {p : Value} {H : Int → Nat} {v : Value} {ks : List Int} (h : Ofs w 63 p H) (hv : Nums w v ks) (h0 : 0 < ks.length) :
    Calls Try.prog 52 #[p, v] w fun e w' => e = .returned (.tuple #[.int .i64 (coldest H ks), .bool true]) ∧ Grow w w' := by
  have HV := Hid.mk' hv
  have HI : Hid (∀ x ∈ ks, i64 x) := hv.1
  have hlen := hv.2.1
  obtain ⟨b, off, cap, rfl, hcap0, hb, hc⟩ := hv.at h0
  have hcap : ∃ n, ks.length = n + 1 := ⟨ks.length - 1, by omega⟩
  obtain ⟨n, hn⟩ := hcap
  have HC : Hid (∀ w', Grow w w' → ∀ i, i < n + 1 → w'.cell? ⟨b, off + i, none⟩ = some (.int .i64 (ks.getD i 0))) := fun w' k i hi => grow_cell k (hc i (by omega))
  have HN := Hid.mk' hn
  have HO := Hid.mk' h
  have HG : Hid (∀ i, i < n + 1 → i64 (ks.getD i 0)) := fun i hi => HI.out _ (by
    have hi' : i < ks.length := by have := HN.out; omega
    rw [List.getD_eq_getElem?_getD, List.getElem?_eq_getElem hi']
    exact List.getElem_mem hi')
  obtain ⟨A, c9, hsl, hA⟩ := cut_one (b := b) (off := off) (n := n) (cap := cap) (by omega)
  have HSL := Hid.mk' hsl
  have HA := Hid.mk' hA
  clear hsl hA hcap0
  rw [hn] at hlen ⊢
  clear hv hc hb h0 hn h
  obtain ⟨k0, hk0⟩ : ∃ k0, k0 = ks.getD 0 0 := ⟨_, rfl⟩
  have c0 : w.cell? ⟨b, off, none⟩ = some (.int .i64 k0) := by rw [hk0]; exact HC.out w (But.refl _ _) 0 (by omega)
  have HK0 : Hid (coldest H (ks.take 1) = k0) := by
    show _ = _
    rw [hk0]
    have := HN.out
    cases ks with
    | nil => simp at this
    | cons a l => rfl
  have HI0 : Hid (i64 k0) := by rw [hk0]; exact HG.out 0 (by omega)
  clear hk0
  go_enter Try.func52, Try.ntmps52
  go_wp2_with fail
  refine Calls.mono (HO.out.call _ (But.refl _ _) k0 HI0.out) ?_
  rintro e w' ⟨rfl, hg1⟩
  have HG1 := Hid.mk' hg1
  clear hg1 c0
  go_wp2_with (first
    | (refine wpList_runH rfl (exec_slc rfl rfl rfl rfl (HSL.out _)) ?_)
    | fail)
  go_loopw [24, 6, 7] (fun i c l wr => ∃ k : Nat, k ≤ n ∧ i = .int .i64 k ∧ c = .int .i64 (coldest H (ks.take (k + 1))) ∧ l = .float .f64 (H (coldest H (ks.take (k + 1)))) ∧ i64 (coldest H (ks.take (k + 1))) ∧ Grow w wr) (fun i _ _ _ => n - (intOf i).toNat)
  case atStart => exact ⟨0, Nat.zero_le _, rfl, by rw [HK0.out], by rw [HK0.out], by rw [HK0.out]; exact HI0.out, HG1.out⟩
  case round =>
    obtain ⟨k, hk, rfl, rfl, rfl, hic, hgr⟩ := hrel
    have HIC := Hid.mk' hic
    have HGR := Hid.mk' hgr
    have HNX := Hid.mk' (coldest_next H ks (k + 1) (by omega))
    by_cases hlt : k < n
    · have hA := HA.out (by omega)
      subst hA
      have hnx := HNX.out (by have := HN.out; omega)
      obtain ⟨x, hx⟩ : ∃ x, x = ks.getD (k + 1) 0 := ⟨_, rfl⟩
      have cx : wr.cell? ⟨b, off + 1 + k, none⟩ = some (.int .i64 x) := by
        rw [hx, show off + 1 + k = off + (k + 1) by omega]
        exact HC.out wr hgr (k + 1) (by omega)
      have HX : Hid (i64 x) := by rw [hx]; exact HG.out (k + 1) (by omega)
      rw [← hx] at hnx
      obtain ⟨c, hc⟩ : ∃ c, c = coldest H (ks.take (k + 1)) := ⟨_, rfl⟩
      rw [← hc] at hnx HIC ⊢
      have HC1 := Hid.mk' hc
      rw [← colder_prog] at hnx
      have HNN := Hid.mk' hnx
      have hki : (k : Int) < (n : Int) := by omega
      have HLX := Hid.mk' (HO.out.lt x)
      have HLC := Hid.mk' (HO.out.lt c)
      have HOX := Hid.mk' (HO.out.call wr hgr x HX.out)
      obtain ⟨hX, hhX⟩ : ∃ y, y = H x := ⟨_, rfl⟩
      obtain ⟨hCc, hhC⟩ : ∃ y, y = H c := ⟨_, rfl⟩
      have HHX := Hid.mk' hhX
      have HHC := Hid.mk' hhC
      rw [← hhX] at HLX HOX HNN
      rw [← hhC] at HLC HNN ⊢
      clear hgr hic hx hc hnx hhX hhC HNX
      go_wp2_with fail
      refine Calls.mono HOX.out ?_
      rintro e w2 ⟨rfl, hg2⟩
      have HG2 := Hid.mk' (HGR.out.trans hg2)
      clear hg2
      go_wp2_with fail
      refine Calls.mono (less_any hX hCc w2 HLX.out HLC.out) ?_
      rintro e w3 ⟨rfl, hw⟩
      have h2 := hw.symm
      subst h2
      clear hw
      cases h1 : ls hX hCc
      case true =>
        have HE : Hid (coldest H (ks.take (k + 1 + 1)) = x) := by show _ = _; rw [HNN.out, h1]; rfl
        clear h1 HNN
        go_wp2
        go_roundw
        case rel => exact ⟨k + 1, by omega, by go_num, by rw [HE.out], by rw [HE.out, HHX.out], by rw [HE.out]; exact HX.out, HG2.out⟩
        case measure => simp [intOf]; omega
      case false =>
        by_cases h2 : x < c
        · have h2d : decide (x < c) = true := by simpa using h2
          go_wp2_with fail
          refine Calls.mono (less_any hCc hX w2 HLC.out HLX.out) ?_
          rintro e w3 ⟨rfl, hw⟩
          have h4 := hw.symm
          subst h4
          clear hw
          cases h3 : ls hCc hX
          case true =>
            have HE : Hid (coldest H (ks.take (k + 1 + 1)) = c) := by show _ = _; rw [HNN.out, h1, h2d, h3]; rfl
            clear h1 h2 h2d h3 HNN
            go_wp2
            go_roundw
            case rel => exact ⟨k + 1, by omega, by go_num, by rw [HE.out], by rw [HE.out, HHC.out], by rw [HE.out]; exact HIC.out, HG2.out⟩
            case measure => simp [intOf]; omega
          case false =>
            have HE : Hid (coldest H (ks.take (k + 1 + 1)) = x) := by show _ = _; rw [HNN.out, h1, h2d, h3]; rfl
            clear h1 h2 h2d h3 HNN
            go_wp2
            go_roundw
            case rel => exact ⟨k + 1, by omega, by go_num, by rw [HE.out], by rw [HE.out, HHX.out], by rw [HE.out]; exact HX.out, HG2.out⟩
            case measure => simp [intOf]; omega
        · have h2d : decide (x < c) = false := by simpa using h2
          have HE : Hid (coldest H (ks.take (k + 1 + 1)) = c) := by show _ = _; rw [HNN.out, h1, h2d]; rfl
          clear h1 HNN h2d
          go_wp2
          go_roundw
          case rel => exact ⟨k + 1, by omega, by go_num, by rw [HE.out], by rw [HE.out, HHC.out], by rw [HE.out]; exact HIC.out, HG2.out⟩
          case measure => simp [intOf]; omega
    · have hki : ¬ ((k : Int) < (n : Int)) := by omega
      have HE : Hid (coldest H (ks.take (k + 1)) = coldest H ks) := by
        show _ = _
        rw [List.take_of_length_le (by have := HN.out; omega)]
      clear hic hgr
      go_wp2
      exact bodyPost_ret (results_tmp2 rfl _ _ _) rfl ⟨by rw [HE.out]; rfl, HGR.out⟩
end Go.Proofs.Ytmlklmhochihbaa
