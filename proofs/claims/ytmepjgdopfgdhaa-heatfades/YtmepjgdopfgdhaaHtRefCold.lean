/- The reference: Coldest. -/
import Derived.Test.YtmepjgdopfgdhaaHtRefTo
namespace Go.Proofs.Ytmepjgdopfgdhaa
open Go.RowKit

theorem RhM.tok {w : World} {gx half now : Nat} {v : Value} {L : List Sp} (h : RhM w gx v half now L) : Tok now (look L) := ⟨fun k b t e => by
  unfold look at e
  cases hf : L.find? (fun e => e.1 == k) with
  | none => rw [hf] at e; cases e
  | some p =>
    rw [hf] at e
    have h1 := h.ok p (List.mem_of_find?_eq_some hf)
    simp only [Option.map_some, Option.some.injEq] at e
    rw [e] at h1
    exact h1.2⟩
theorem rofs_any {w : World} {gx half now : Nat} {v : Value} {L : List Sp} (h : RhM w gx v half now L) : Ofs w 17 (.pointer (some ⟨gx, 0, none⟩)) (hof half now (look L)) :=
  ⟨fun _ k K _ => rof_any (h.grow k) K, fun K => hof_lt h.tok K⟩
theorem rcoldest_none (w : World) (p v : Value) (h : ∃ ao cap, v = .slice ao 0 cap) : Calls Try.prog 20 #[p, v] w fun e w' => e = .returned (.tuple #[.int .i64 0, .bool false]) ∧ w' = w := by
  obtain ⟨ao, cap, rfl⟩ := h
  go_enter Try.func20, Try.ntmps20
  go_wp2
  exact bodyPost_ret (results_tmp2 rfl _ _ _) rfl ⟨rfl, rfl⟩
set_option maxRecDepth 100000 in
set_option maxHeartbeats 1000000 in
theorem rcoldest_some {w : World} {p : Value} {H : Int → Nat} {v : Value} {ks : List Int} (h : Ofs w 17 p H) (hv : Nums w v ks) (h0 : 0 < ks.length) :
    Calls Try.prog 20 #[p, v] w fun e w' => e = .returned (.tuple #[.int .i64 (coldest H ks), .bool true]) ∧ Grow w w' := by
  have HI : Hid (∀ x ∈ ks, i64 x) := hv.1
  have hlen := hv.2.1
  obtain ⟨b, off, cap, rfl, hcap0, hb, hc⟩ := hv.at h0
  obtain ⟨n, hn⟩ : ∃ n, n = ks.length := ⟨_, rfl⟩
  have HC : Hid (∀ w', Grow w w' → ∀ i, i < n → w'.cell? ⟨b, off + i, none⟩ = some (.int .i64 (ks.getD i 0))) := fun w' k i hi => grow_cell k (hc i (by omega))
  have HN := Hid.mk' hn
  have HO := Hid.mk' h
  have HG : Hid (∀ i, i < n → i64 (ks.getD i 0)) := fun i hi => HI.out _ (by
    have hi' : i < ks.length := by have := HN.out; omega
    rw [List.getD_eq_getElem?_getD, List.getElem?_eq_getElem hi']
    exact List.getElem_mem hi')
  rw [← hn] at hlen h0 ⊢
  clear hv hc hb hn h hcap0
  have hni : ¬ ((n : Int) = 0) := by omega
  have hni0 : (0 : Int) < (n : Int) := by omega
  have hni1 : ((n : Int) == 0) = false := by simpa using hni
  have hlenI : (n : Int) ≤ 140737488355328 := by omega
  obtain ⟨k0, hk0⟩ : ∃ k0, k0 = ks.getD 0 0 := ⟨_, rfl⟩
  have c0 : w.cell? ⟨b, off, none⟩ = some (.int .i64 k0) := by rw [hk0]; exact HC.out w (But.refl _ _) 0 (by omega)
  have HK0 : Hid (coldest H (ks.take 1) = k0) := by
    show _ = _
    rw [hk0]
    have := HN.out
    cases ks with
    | nil => simp at this; omega
    | cons a l => rfl
  have HI0 : Hid (i64 k0) := by rw [hk0]; exact HG.out 0 (by omega)
  clear hk0 hni
  go_enter Try.func20, Try.ntmps20
  go_wp2
  clear c0
  go_loopw [7, 6] (fun i c wr => ∃ k : Nat, 1 ≤ k ∧ k ≤ n ∧ i = .int .i64 k ∧ c = .int .i64 (coldest H (ks.take k)) ∧ i64 (coldest H (ks.take k)) ∧ Grow w wr) (fun i _ _ => n - (intOf i).toNat)
  case atStart => exact ⟨1, Nat.le_refl _, by omega, rfl, by rw [HK0.out], by rw [HK0.out]; exact HI0.out, But.refl _ _⟩
  case round =>
    obtain ⟨k, hk1, hk, rfl, rfl, hic, hgr⟩ := hrel
    have HIC := Hid.mk' hic
    have HGR := Hid.mk' hgr
    by_cases hlt : k < n
    · have hnx := coldest_next H ks k (by omega) (by have := HN.out; omega)
      obtain ⟨x, hx⟩ : ∃ x, x = ks.getD k 0 := ⟨_, rfl⟩
      have cx : wr.cell? ⟨b, off + k, none⟩ = some (.int .i64 x) := by
        rw [hx]; exact HC.out wr hgr k (by omega)
      have HX : Hid (i64 x) := by rw [hx]; exact HG.out k (by omega)
      rw [← hx] at hnx
      obtain ⟨c, hc⟩ : ∃ c, c = coldest H (ks.take k) := ⟨_, rfl⟩
      rw [← hc] at hnx HIC ⊢
      have HNN := Hid.mk' hnx
      have hki : (k : Int) < (n : Int) := by omega
      have HLX := Hid.mk' (HO.out.lt x)
      have HLC := Hid.mk' (HO.out.lt c)
      have HOX := Hid.mk' (HO.out.call wr hgr x HX.out)
      have HOC := Hid.mk' (fun w2 (k2 : Grow w w2) => HO.out.call w2 k2 c HIC.out)
      have HCX := Hid.mk' (fun w2 (k2 : Grow wr w2) => grow_cell k2 cx)
      have HCO : Hid (∀ q1 q2 q3 : Bool, ls (H x) (H c) = q1 → sa (H x) (H c) = q2 → decide (x < c) = q3 → colder H x c = (q1 || q2 && q3)) := fun q1 q2 q3 e1 e2 e3 => by unfold colder; rw [e1, e2, e3]
      obtain ⟨hX, hhX⟩ : ∃ y, y = H x := ⟨_, rfl⟩
      obtain ⟨hCc, hhC⟩ : ∃ y, y = H c := ⟨_, rfl⟩
      rw [← hhX] at HLX HOX HCO
      rw [← hhC] at HLC HCO HOC
      clear hgr hic hx hc hnx hhX hhC
      go_wp2_with fail
      refine Calls.mono HOX.out ?_
      rintro e w2 ⟨rfl, hg2⟩
      have HG2 := Hid.mk' (HGR.out.trans hg2)
      have HG22 := Hid.mk' hg2
      clear hg2 cx
      go_wp2_with fail
      refine Calls.mono (HOC.out w2 HG2.out) ?_
      rintro e w3 ⟨rfl, hg3⟩
      have HG3 := Hid.mk' (HG2.out.trans hg3)
      have cx3 : w3.cell? ⟨b, off + k, none⟩ = some (.int .i64 x) := HCX.out w3 (HG22.out.trans hg3)
      clear hg3
      go_wp2_with fail
      refine Calls.mono (refLess_any hX hCc w3 HLX.out HLC.out) ?_
      rintro e w4 ⟨rfl, hw⟩
      have h2 := hw.symm
      subst h2
      clear hw
      cases h1 : ls hX hCc
      case true =>
        have HE : Hid (coldest H (ks.take (k + 1)) = x) := by show _ = _; rw [HNN.out, HCO.out true _ _ h1 rfl rfl]; rfl
        clear h1 HNN HCO
        go_wp2
        go_roundw
        case rel => exact ⟨k + 1, by omega, by omega, by go_num, by rw [HE.out], by rw [HE.out]; exact HX.out, HG3.out⟩
        case measure => simp [intOf]; omega
      case false =>
        go_wp2_with fail
        refine Calls.mono (same_any hX hCc w3 HLX.out HLC.out) ?_
        rintro e w4 ⟨rfl, hw⟩
        have h4 := hw.symm
        subst h4
        clear hw
        cases h3 : sa hX hCc
        case false =>
          have HE : Hid (coldest H (ks.take (k + 1)) = c) := by show _ = _; rw [HNN.out, HCO.out false false _ h1 h3 rfl]; rfl
          clear h1 h3 HNN HCO
          go_wp2
          go_roundw
          case rel => exact ⟨k + 1, by omega, by omega, by go_num, by rw [HE.out], by rw [HE.out]; exact HIC.out, HG3.out⟩
          case measure => simp [intOf]; omega
        case true =>
          by_cases h2 : x < c
          · have HE : Hid (coldest H (ks.take (k + 1)) = x) := by show _ = _; rw [HNN.out, HCO.out false true true h1 h3 (by simpa using h2)]; rfl
            clear h1 h3 HNN HCO
            go_wp2
            go_roundw
            case rel => exact ⟨k + 1, by omega, by omega, by go_num, by rw [HE.out], by rw [HE.out]; exact HX.out, HG3.out⟩
            case measure => simp [intOf]; omega
          · have HE : Hid (coldest H (ks.take (k + 1)) = c) := by show _ = _; rw [HNN.out, HCO.out false true false h1 h3 (by simpa using h2)]; rfl
            clear h1 h3 HNN HCO
            go_wp2
            go_roundw
            case rel => exact ⟨k + 1, by omega, by omega, by go_num, by rw [HE.out], by rw [HE.out]; exact HIC.out, HG3.out⟩
            case measure => simp [intOf]; omega
    · have hki : ¬ ((k : Int) < (n : Int)) := by omega
      have HE : Hid (coldest H (ks.take k) = coldest H ks) := by
        show _ = _
        rw [List.take_of_length_le (by have := HN.out; omega)]
      clear hic hgr
      go_wp2
      exact bodyPost_ret (results_tmp2 rfl _ _ _) rfl ⟨by rw [HE.out]; rfl, HGR.out⟩
end Go.Proofs.Ytmepjgdopfgdhaa
