/- For any number, any tasks and any weight: a key that is pinned is no victim, and isn't dropped, till each task that pinned it is free. No condition. -/
import Derived.Test.YtakomnmpkonjpaaFrPinsMath
import Derived.Test.YtakomnmpkonjpaaPickAny
import Derived.Test.YtakomnmpkonjpaaPast
import Derived.ProofKit
import Derived.OpenShut
import Derived.ChangeOld
import Derived.Below
namespace Go.Proofs.Ytakomnmpkonjpaa
open Go.ChangeShapes Go.WideShapes Go.ChangeAt Go.RowKit

/-- What is at hand: the table, and the tasks. -/
structure PinW (w wr : World) (gt n : Nat) (fr : List FrE) (pins : List (Int × Int)) (m : Nat) : Prop where
  ex : ∃ s, Fl (fun _ => False) w wr gt s ∧ PinS n s fr pins m
theorem PinW.grow {w wr w' : World} {gt n m : Nat} {fr : List FrE} {pins : List (Int × Int)} (h : PinW w wr gt n fr pins m) (k : Grow wr w') : PinW w w' gt n fr pins m := by
  obtain ⟨s, h1, h2⟩ := h.ex
  exact ⟨s, h1.then k, h2⟩
section
variable {w wr : World} {gt n m : Nat} {fr : List FrE} {pins : List (Int × Int)}
theorem pinw_put {i : Nat} (h : PinW w wr gt n (frs i) [] m) (hi : i < n) (hn : n ≤ 9) : Calls Try.prog 16 #[ptr gt, .int .i64 (i : Int), .slice none 0 0, .bool false] wr fun e w' => e = .returned (.int .i64 0) ∧ PinW w w' gt n (frs (i + 1)) [] m := by
  obtain ⟨s, h1, h2⟩ := h.ex
  have hh : s.has (i : Int) = false := by
    unfold St.has
    rw [h2.fr, frs_has]
    exact decide_eq_false (by omega)
  have hl : ¬ (s.most ≤ s.fr.length) := by rw [h2.most, h2.fr, frs_len]; omega
  refine (fl_put h1 (K := (i : Int)) (xs := []) (q := false) (by unfold i64; omega) ⟨Bs.nil _, fun h0 => absurd h0 (by simp)⟩ (by simp)).mono ?_
  rintro e w' ⟨rfl, h3, -⟩
  refine ⟨by unfold St.putc; rw [hh, if_neg (by decide), if_neg hl], ⟨_, h3, ?_⟩⟩
  unfold St.put
  rw [if_neg (by rw [hh]; decide), if_neg hl]
  exact ⟨h2.most, by show s.fr ++ _ = _; rw [h2.fr, frs_next], h2.pins, h2.now⟩
theorem pinw_warm {k i y : Nat} (h : PinW w wr gt n (frs i) pins m) (hk : k < i) (hi : i ≤ 9) (hm : m ≤ 1000) : Calls Try.prog 25 #[ptr gt, .int .i64 (k : Int), .float .f64 y] wr fun e w' => e = .returned (.tuple #[]) ∧ PinW w w' gt n (frs i) pins (m + 1) := by
  obtain ⟨s, h1, h2⟩ := h.ex
  have hh : s.has (k : Int) = true := by
    unfold St.has
    rw [h2.fr, frs_has]
    exact decide_eq_true hk
  refine (fl_warm h1 (K := (k : Int)) (by unfold i64; omega) (by have := h2.now; omega)).mono ?_
  rintro e w' ⟨rfl, h3, -⟩
  refine ⟨rfl, _, h3, ?_⟩
  unfold St.warm
  rw [if_pos hh]
  exact ⟨h2.most, h2.fr, h2.pins, Nat.succ_le_succ h2.now⟩
theorem pinw_pin {t : Int} (h : PinW w wr gt n (frs n) pins m) (ht : i64 t) (h1n : 1 ≤ n) (hp : pins.length < 100000) : Calls Try.prog 23 #[ptr gt, .int .i64 t, .int .i64 0] wr fun e w' => e = .returned (.int .i64 0) ∧ PinW w w' gt n (frs n) (pins ++ [(t, 0)]) m := by
  obtain ⟨s, h1, h2⟩ := h.ex
  have hh := h2.has h1n
  refine (fl_pin h1 (K := 0) ht (by unfold i64; omega) (by rw [h2.pins]; exact hp)).mono ?_
  rintro e w' ⟨rfl, h3, -⟩
  refine ⟨by rw [hh]; rfl, _, h3, ?_⟩
  unfold St.pin
  rw [if_pos hh]
  exact ⟨h2.most, h2.fr, by show s.pins ++ _ = _; rw [h2.pins], h2.now⟩
theorem pinw_free {t : Int} (h : PinW w wr gt n fr pins m) (ht : i64 t) : Calls Try.prog 21 #[ptr gt, .int .i64 t] wr fun e w' => e = .returned (.tuple #[]) ∧ PinW w w' gt n fr (pins.filter (fun p => !(p.1 == t))) m := by
  obtain ⟨s, h1, h2⟩ := h.ex
  refine (fl_free h1 ht).mono ?_
  rintro e w' ⟨rfl, h3, -⟩
  exact ⟨rfl, _, h3, h2.most, h2.fr, by show s.pins.filter _ = _; rw [h2.pins], h2.now⟩
theorem pinw_pinned (h : PinW w wr gt n fr pins m) : Calls Try.prog 26 #[ptr gt, .int .i64 0] wr fun e w' => e = .returned (.bool (pins.any (fun p => p.2 == 0))) ∧ w' = wr := by
  obtain ⟨s, h1, h2⟩ := h.ex
  have := fl_pinned h1 (K := 0) (by unfold i64; omega)
  unfold St.pinned at this
  rw [h2.pins] at this
  exact this
theorem pinw_busy (h : PinW w wr gt n (frs n) pins m) (h1n : 1 ≤ n) (hp : pins.any (fun p => p.2 == 0) = true) : Calls Try.prog 15 #[ptr gt, .int .i64 0] wr fun e w' => e = .returned (.int .i64 6) ∧ PinW w w' gt n (frs n) pins m := by
  obtain ⟨s, h1, h2⟩ := h.ex
  have hc := h2.drop h1n
  rw [hp] at hc
  refine (fl_drop h1 (K := 0) (by unfold i64; omega)).mono ?_
  rintro e w' ⟨rfl, h3, -⟩
  refine ⟨by rw [hc]; rfl, _, h3, ?_⟩
  unfold St.drop
  rw [hc]
  exact h2
theorem pinw_drop (h : PinW w wr gt n (frs n) pins m) (h1n : 1 ≤ n) (hp : pins.any (fun p => p.2 == 0) = false) : Calls Try.prog 15 #[ptr gt, .int .i64 0] wr fun e w' => e = .returned (.int .i64 0) ∧ ∃ s, Fl (fun _ => False) w w' gt s ∧ s.has 0 = false := by
  obtain ⟨s, h1, h2⟩ := h.ex
  have hc := h2.drop h1n
  rw [hp] at hc
  refine (fl_drop h1 (K := 0) (by unfold i64; omega)).mono ?_
  rintro e w' ⟨rfl, h3, -⟩
  refine ⟨by rw [hc]; rfl, _, h3, ?_⟩
  unfold St.drop
  rw [hc, if_pos (by rfl)]
  exact St.has_not.2 (fun e he => by have := (List.mem_filter.1 he).2; simpa using this)
theorem drop_gone {s : St} (h : Fl (fun _ => False) w wr gt s) (hh : s.has 0 = false) : Calls Try.prog 15 #[ptr gt, .int .i64 0] wr fun e w' => e = .returned (.int .i64 5) ∧ Grow w w' := by
  refine (fl_drop h (K := 0) (by unfold i64; omega)).mono ?_
  rintro e w' ⟨rfl, h3, -⟩
  exact ⟨by unfold St.dropc; rw [hh]; rfl, h3.grow⟩
theorem pinw_victim (h : PinW w wr gt n (frs n) pins m) (hp : pins.any (fun p => p.2 == 0) = true) : Calls Try.prog 22 #[ptr gt] wr fun e w' => (∃ k c : Int, e = .returned (.tuple #[.int .i64 k, .int .i64 c]) ∧ (c = 0 → k ≠ 0) ∧ (n = 1 → c = 12)) ∧ PinW w w' gt n (frs n) pins m := by
  obtain ⟨s, h1, h2⟩ := h.ex
  refine (fl_victim h1).mono ?_
  rintro e w' ⟨rfl, h3, -⟩
  exact ⟨⟨_, _, rfl, (h2.loose hp).1, (h2.loose hp).2⟩, _, h3, h2⟩
end
set_option maxRecDepth 100000 in
set_option maxHeartbeats 80000000 in
theorem pins_small (x : Int) (v0 : Value) (ks : List Int) (y : Nat) (w : World) (hv : Nums w v0 ks) (hsz0 : ks.length ≤ 20) :
    Calls Try.prog 6 #[.int .i64 x, v0, .float .f64 y] w fun e w' => e = .returned (.bool true) ∧ Below w.heap.size w w' := by
  have hlen := hv.2.1
  have HI : Hid (∀ z ∈ ks, i64 z) := hv.1
  obtain ⟨T, hT⟩ : ∃ T, T = ks.take 20 := ⟨_, rfl⟩
  obtain ⟨m, hm⟩ : ∃ m, m = T.length := ⟨_, rfl⟩
  obtain ⟨l, hl⟩ : ∃ l, l = ks.length := ⟨_, rfl⟩
  have hml : m = min 20 l := by rw [hm, hT, List.length_take, hl]
  have HTI : Hid (∀ i, i < m → i64 (T.getD i 0)) := fun i hi => HI.out _ (by
    have hi' : i < T.length := by omega
    rw [List.getD_eq_getElem?_getD, List.getElem?_eq_getElem hi']
    exact List.mem_of_mem_take (i := 20) (by rw [← hT]; exact List.getElem_mem hi'))
  have HTC : Hid (∀ i, i < m → ∃ b off cap, v0 = .slice (some ⟨b, off, none⟩) l cap ∧ ∀ wr, Grow w wr → ∀ j, j < m → wr.cell? ⟨b, off + j, none⟩ = some (.int .i64 (T.getD j 0))) := fun i hi => by
    obtain ⟨b, off, cap, rfl, -, -, hc⟩ := hv.at (by omega)
    refine ⟨b, off, cap, by rw [hl], fun wr k j hj => ?_⟩
    have h1 := grow_cell k (hc j (by omega))
    rw [h1, hT]
    congr 2
    rw [List.getD_eq_getElem?_getD, List.getD_eq_getElem?_getD, List.getElem?_take, if_pos (by omega)]
  obtain ⟨ao, cap, rfl⟩ := hv.len
  rw [← hl] at hlen HTC ⊢
  obtain ⟨p, hp⟩ : ∃ p : Nat, x % 9 = (p : Int) := ⟨(x % 9).toNat, by have := Int.emod_nonneg x (b := 9) (by decide); omega⟩
  have hp9 : p < 9 := by have := Int.emod_lt_of_pos x (b := 9) (by decide); omega
  obtain ⟨n, hn⟩ : ∃ n : Nat, n = p + 1 := ⟨_, rfl⟩
  have HP := Hid.mk' (pick_any x 9 w (by decide) (by decide))
  rw [hp] at HP
  have e1 : (1 : Int) + (p : Int) = (n : Int) := by omega
  have hn9 : (n : Int) ≤ 9 := by omega
  have hn1 : 1 ≤ n := by omega
  have HN1 := Hid.mk' hn1
  have HN9 : Hid (n ≤ 9) := by show _ ≤ _; omega
  have HNW := Hid.mk' (fl_new w n hn1 (by omega))
  have HM := Hid.mk' hm
  have HML := Hid.mk' hml
  have hll : (l : Int) ≤ 140737488355328 := by omega
  have HSZ : Hid (l ≤ 20 ∧ m = l) := by show _ ∧ _; omega
  clear hv hT hm hml hp hp9 hn hn1 hl hlen hsz0
  go_enter Try.func6, Try.ntmps6
  go_wp2_with fail
  refine Calls.mono HP.out ?_
  rintro e w' ⟨rfl, hw⟩
  have h2 := hw.symm
  subst h2
  clear hw
  go_wp2_with fail
  refine Calls.mono HNW.out ?_
  rintro e w1 ⟨gt, rfl, h1⟩
  have H1 : Hid (PinW w w1 gt n (frs 0) [] 0) := ⟨_, h1, rfl, rfl, rfl, Nat.le_refl _⟩
  clear h1 e1 HNW HP
  go_wp2
  go_loopw [9] (fun iv wr => ∃ i : Nat, i ≤ n ∧ iv = .int .i64 i ∧ PinW w wr gt n (frs i) [] i) (fun iv _ => n - (Go.RowKit.intOf iv).toNat)
  case atStart => exact ⟨0, Nat.zero_le _, rfl, H1.out⟩
  case round =>
    clear H1
    obtain ⟨i, hin, rfl, hI⟩ := hrel
    by_cases hlt : i < n
    · have hlti : (i : Int) < (n : Int) := by omega
      have HPT := Hid.mk' (pinw_put hI hlt HN9.out)
      clear hI
      go_wp2_with fail
      refine Calls.mono HPT.out ?_
      rintro e w2 ⟨rfl, h2⟩
      have HWM := Hid.mk' (fun y => pinw_warm (y := y) (k := i) h2 (by omega) (by have := HN9.out; omega) (by have := HN9.out; omega))
      clear h2
      go_wp2_with fail
      refine Calls.mono (HWM.out _) ?_
      rintro e w3 ⟨rfl, h3⟩
      have HW3 := Hid.mk' h3
      clear h3
      go_wp2
      exact ⟨⟨i + 1, by omega, by go_num, HW3.out⟩, by simp [Go.RowKit.intOf]; omega⟩
    have hlti : ¬ ((i : Int) < (n : Int)) := by omega
    obtain rfl : i = n := by omega
    have HW0 := Hid.mk' (pinw_warm (y := y) (k := 0) hI (by have := HN1.out; omega) HN9.out (by have := HN9.out; omega))
    clear hI hin hlt
    rename_i hin0 hlt0
    go_wp2_with fail
    refine Calls.mono HW0.out ?_
    rintro e w2 ⟨rfl, h2⟩
    have HW2 : Hid (PinW w w2 gt i (frs i) ((T.take 0).map (fun t => (t, (0 : Int)))) (i + 1)) := h2
    clear h2 HW0
    go_wp2
    go_loopw [10] (fun iv wr => ∃ j : Nat, j ≤ m ∧ iv = .int .i64 j ∧ PinW w wr gt i (frs i) ((T.take j).map (fun t => (t, (0 : Int)))) (i + 1)) (fun iv _ => m - (Go.RowKit.intOf iv).toNat)
    case atStart => exact ⟨0, Nat.zero_le _, rfl, HW2.out⟩
    case round =>
      clear HW2
      obtain ⟨j, hjm, rfl, hJ⟩ := hrel
      by_cases hjlt : j < m
      · have hji : (j : Int) < (l : Int) := by have := HML.out; omega
        have hj20 : (j : Int) < 20 := by have := HML.out; omega
        obtain ⟨b, off, cap', e1, hc⟩ := HTC.out j hjlt
        simp only [Value.slice.injEq] at e1
        obtain ⟨rfl, -, rfl⟩ := e1
        obtain ⟨s0, hs0, -⟩ := hJ.ex
        have cj : wr.cell? ⟨b, off + j, none⟩ = some (.int .i64 (T.getD j 0)) := hc wr hs0.grow j hjlt
        have HPN := Hid.mk' (pinw_pin (t := T.getD j 0) hJ (HTI.out j hjlt) HN1.out (by rw [List.length_map, List.length_take]; have := HML.out; omega))
        have HNX : Hid ((T.take j).map (fun t => (t, (0 : Int))) ++ [(T.getD j 0, 0)] = (T.take (j + 1)).map (fun t => (t, (0 : Int)))) := by
          show _ = _
          have hj' : j < T.length := by have := HM.out; omega
          rw [List.take_succ_eq_append_getElem hj', List.map_append, List.getD_eq_getElem?_getD, List.getElem?_eq_getElem hj']
          rfl
        generalize T.getD j 0 = tj at *
        clear hJ hc hs0
        go_wp2_with fail
        refine Calls.mono HPN.out ?_
        rintro e w3 ⟨rfl, h3⟩
        rw [HNX.out] at h3
        have HW3 := Hid.mk' h3
        clear h3
        go_wp2
        exact ⟨⟨j + 1, by omega, by go_num, HW3.out⟩, by simp [Go.RowKit.intOf]; omega⟩
      have hxa : ¬ ((j : Int) < (l : Int)) := by have := HSZ.out; omega
      have HW3 : Hid (PinW w wr gt i (frs i) (pinsAt T 0) (i + 1)) := by
        have h5 : T.take j = T := List.take_of_length_le (by have := HM.out; omega)
        rw [h5] at hJ
        rw [pinsAt_zero]
        exact hJ
      have HAN0 : Hid (0 < m → (pinsAt T 0).any (fun p => p.2 == 0) = true) := fun h0 => by
        rw [pinsAt_any]
        have := HM.out
        cases T with
        | nil => simp at this; omega
        | cons a l => rfl
      clear hJ hjm hjlt
      go_wp2
      go_loopw [11, 12, 13, 14, 15, 16, 17] (fun iv _ _ _ _ _ _ wr => ∃ q : Nat, (q < m ∨ (q = 0 ∧ m = 0)) ∧ iv = .int .i64 q ∧ (q < m → (pinsAt T q).any (fun p => p.2 == 0) = true) ∧ PinW w wr gt i (frs i) (pinsAt T q) (i + 1)) (fun iv _ _ _ _ _ _ _ => m - (Go.RowKit.intOf iv).toNat)
      case atStart => exact ⟨0, by omega, rfl, HAN0.out, HW3.out⟩
      case round =>
        clear HW3 HAN0
        obtain ⟨q, hq, rfl, hqa, hQ⟩ := hrel
        by_cases hqm : q < m
        · have hqi : (q : Int) < (l : Int) := by have := HML.out; omega
          have hq20 : (q : Int) < 20 := by have := HML.out; omega
          have HQM := Hid.mk' hqm
          have HAN := Hid.mk' (hqa hqm)
          have HVC := Hid.mk' (pinw_victim hQ HAN.out)
          obtain ⟨b, off, cap', e1, hc⟩ := HTC.out q hqm
          simp only [Value.slice.injEq] at e1
          obtain ⟨rfl, -, rfl⟩ := e1
          have HC := Hid.mk' hc
          clear hQ hqa hq hqm hc
          go_wp2_with fail
          refine Calls.mono HVC.out ?_
          rintro e w4 ⟨⟨kv, cv, rfl, hk1, hk2⟩, h4⟩
          have HDB := Hid.mk' (pinw_busy h4 HN1.out HAN.out)
          have hcase : (cv = 0 ∧ (kv == 0) = false ∧ ((i : Int) == 1) = false) ∨ ((cv == 0) = false ∧ ((i : Int) == 1) = false) ∨ (cv = 12 ∧ ((i : Int) == 1) = true) := by
            by_cases hc0 : cv = 0
            · have h1 : i ≠ 1 := fun e => by have := hk2 e; omega
              have h2 := hk1 hc0
              exact .inl ⟨hc0, by simpa using h2, by simp; omega⟩
            · by_cases hi1 : i = 1
              · exact .inr (.inr ⟨hk2 hi1, by simp; omega⟩)
              · exact .inr (.inl ⟨by simpa using hc0, by simp; omega⟩)
          clear h4 hk1 hk2 HVC
          go_wp2_with fail
          refine Calls.mono HDB.out ?_
          rintro e w5 ⟨rfl, h5⟩
          have H5 := Hid.mk' h5
          clear h5 HDB
          rcases hcase with ⟨rfl, hk0, hi1⟩ | ⟨hc0, hi1⟩ | ⟨rfl, hi1⟩
          all_goals
            go_wp2
            go_loopw [15, 14, 16, 17] (fun jv lv _ _ wr => ∃ j : Nat, q + 1 ≤ j ∧ j ≤ m ∧ jv = .int .i64 j ∧ lv = .bool (lastAt T q j) ∧ Grow w5 wr) (fun jv _ _ _ _ => m - (Go.RowKit.intOf jv).toNat)
            case atStart => exact ⟨q + 1, Nat.le_refl _, HQM.out, by go_num, by rw [lastAt_zero], But.refl _ _⟩
            case round =>
              obtain ⟨j, hj1, hjm, rfl, rfl, hG⟩ := hrel
              have HG := Hid.mk' hG
              clear hG
              obtain ⟨sq, hsq, -⟩ := H5.out.ex
              have HGW := Hid.mk' (hsq.grow.trans HG.out)
              clear hsq
              by_cases hjlt : j < m
              · have hji : (j : Int) < (l : Int) := by have := HML.out; omega
                have hj20 : (j : Int) < 20 := by have := HML.out; omega
                have HLX := Hid.mk' (lastAt_next (T := T) (i := q) (j := j) (by have := HM.out; omega) hj1)
                have HCJ := Hid.mk' (fun wz (kz : Grow w wz) => HC.out wz kz j hjlt)
                obtain ⟨tj, htj⟩ : ∃ tj, tj = T.getD j 0 := ⟨_, rfl⟩
                rw [← htj] at HLX HCJ
                clear htj
                go_wp2
                obtain ⟨wb, hwb⟩ : ∃ wb, wb = wr := ⟨_, rfl⟩
                subst hwb
                go_loopw [17, 16] (fun kv gv wr => ∃ k : Nat, k ≤ q + 1 ∧ kv = .int .i64 k ∧ gv = .bool (goneAt T k tj) ∧ Grow wb wr) (fun kv _ _ => q + 1 - (Go.RowKit.intOf kv).toNat)
                case atStart => exact ⟨0, Nat.zero_le _, rfl, by rw [goneAt_zero], But.refl _ _⟩
                case round =>
                  obtain ⟨k, hk1, rfl, rfl, hG2⟩ := hrel
                  have HG2 := Hid.mk' hG2
                  clear hG2
                  by_cases hkq : k ≤ q
                  · have hkqi : (k : Int) ≤ (q : Int) := by omega
                    have hki : (k : Int) < (l : Int) := by have := HML.out; have := HQM.out; omega
                    have HGX : Hid (goneAt T (k + 1) tj = (goneAt T k tj || (T.getD k 0 == tj))) := gone_next (by have := HM.out; have := HQM.out; omega) tj
                    have HCK : Hid (∀ wz, Grow w wz → wz.cell? ⟨b, off + k, none⟩ = some (.int .i64 (T.getD k 0))) := fun wz kz => HC.out wz kz k (by have := HQM.out; omega)
                    obtain ⟨tk, htk⟩ : ∃ tk, tk = T.getD k 0 := ⟨_, rfl⟩
                    rw [← htk] at HGX HCK
                    clear htk
                    cases hgo : goneAt T k tj with
                    | true =>
                      rw [hgo] at HGX
                      clear hgo
                      go_upto_region 31 with fail
                      refine region_chain [] [0, 1, 2, 3, 4, 5, 6, 7, 8, 9, 10, 11, 12] (Grow wr) (Grow wr) (by kernel_rfl) (by kernel_rfl) (fun _ _ h k => h.trans k) (fun _ h => h) ((But.refl _ wr).drew) ?_
                      intro ι hne X hX
                      iterate 1 (refine still_step rfl (fun K hK => ?_); go_simp; refine hK _ ?_; clear hK K)
                      refine still_step rfl (fun K hK => ?_)
                      have hK' := fun (a : Act) h1 h4 => hK a (still_pass1 (a := a) 1 false 114 (.bool true) [2, 3, 4, 5, 6, 7, 8, 9, 10] [11, 12] [115, 116, 117, 118, 119, 120, 121, 122, 123] rfl rfl (fun h => by cases h) (by kernel_rfl) (by kernel_rfl) h1 h4)
                      clear hK
                      go_simp
                      refine hK' _ (by kernel_rfl) ?_
                      clear hK' K
                      intro K hK
                      simp only [undefL]
                      go_simp
                      refine hK _ ?_
                      clear hK K
                      iterate 2 (refine still_step rfl (fun K hK => ?_); go_simp; refine hK _ ?_; clear hK K)
                      refine still_nil ?_
                      clear hX hne
                      intro w6 hw6
                      have HG6 := Hid.mk' (HG2.out.trans hw6)
                      clear hw6
                      go_wp2
                      exact ⟨⟨k + 1, by omega, by go_num, by rw [HGX.out]; rfl, HG6.out⟩, by simp [Go.RowKit.intOf]; omega⟩
                    | false =>
                      rw [hgo] at HGX
                      clear hgo
                      by_cases hte : tk = tj
                      · have hteb : (tk == tj) = true := by simpa using hte
                        rw [hteb] at HGX
                        clear hte
                        go_upto_region 31 with fail
                        refine region_chain [] [0, 1, 2, 3, 4, 5, 6, 7, 8, 9, 10, 11, 12] (Grow wr) (Grow wr) (by kernel_rfl) (by kernel_rfl) (fun _ _ h k => h.trans k) (fun _ h => h) ((But.refl _ wr).drew) ?_
                        intro ι hne X hX
                        have dk : ∀ x, (X x).cell? ⟨b, off + k, none⟩ = some (.int .i64 tk) := fun x => HCK.out _ (HGW.out.trans (HG2.out.trans (hX x)))
                        have dj : ∀ x, (X x).cell? ⟨b, off + j, none⟩ = some (.int .i64 tj) := fun x => HCJ.out _ (HGW.out.trans (HG2.out.trans (hX x)))
                        iterate 13 (refine still_step rfl (fun K hK => ?_); go_simp; refine hK _ ?_; clear hK K)
                        refine still_nil ?_
                        clear hX hne dk dj
                        intro w6 hw6
                        have HG6 := Hid.mk' (HG2.out.trans hw6)
                        clear hw6
                        go_wp2
                        exact ⟨⟨k + 1, by omega, by go_num, by rw [HGX.out]; rfl, HG6.out⟩, by simp [Go.RowKit.intOf]; omega⟩
                      · have hteb : (tk == tj) = false := by simpa using hte
                        rw [hteb] at HGX
                        clear hte
                        go_upto_region 31 with fail
                        refine region_chain [] [0, 1, 2, 3, 4, 5, 6, 7, 8, 9, 10, 11, 12] (Grow wr) (Grow wr) (by kernel_rfl) (by kernel_rfl) (fun _ _ h k => h.trans k) (fun _ h => h) ((But.refl _ wr).drew) ?_
                        intro ι hne X hX
                        have dk : ∀ x, (X x).cell? ⟨b, off + k, none⟩ = some (.int .i64 tk) := fun x => HCK.out _ (HGW.out.trans (HG2.out.trans (hX x)))
                        have dj : ∀ x, (X x).cell? ⟨b, off + j, none⟩ = some (.int .i64 tj) := fun x => HCJ.out _ (HGW.out.trans (HG2.out.trans (hX x)))
                        iterate 13 (refine still_step rfl (fun K hK => ?_); go_simp; refine hK _ ?_; clear hK K)
                        refine still_nil ?_
                        clear hX hne dk dj
                        intro w6 hw6
                        have HG6 := Hid.mk' (HG2.out.trans hw6)
                        clear hw6
                        go_wp2
                        exact ⟨⟨k + 1, by omega, by go_num, by rw [HGX.out]; rfl, HG6.out⟩, by simp [Go.RowKit.intOf]; omega⟩
                  have hkqi : ¬ ((k : Int) ≤ (q : Int)) := by omega
                  have HKE : Hid (k = q + 1) := by show _ = _; omega
                  have HLY : Hid (lastAt T q (j + 1) = (lastAt T q j && goneAt T k tj)) := by rw [HKE.out]; exact HLX.out
                  have HG6 := Hid.mk' (HG.out.trans HG2.out)
                  cases hla : lastAt T q j with
                  | true =>
                    rw [hla] at HLY
                    clear hla
                    go_wp2
                    exact ⟨⟨j + 1, by omega, by omega, by go_num, by rw [HLY.out]; rfl, HG6.out⟩, by simp [Go.RowKit.intOf]; omega⟩
                  | false =>
                    rw [hla] at HLY
                    clear hla
                    go_wp2
                    exact ⟨⟨j + 1, by omega, by omega, by go_num, by rw [HLY.out]; rfl, HG6.out⟩, by simp [Go.RowKit.intOf]; omega⟩
              have hxa : ¬ ((j : Int) < (l : Int)) := by have := HSZ.out; omega
              have HJE : Hid (j = m) := by show _ = _; omega
              have h7 := H5.out.grow HG.out
              have HFR := Hid.mk' (pinw_free (t := T.getD q 0) h7 (HTI.out q HQM.out))
              have cq : wr.cell? ⟨b, off + q, none⟩ = some (.int .i64 (T.getD q 0)) := HC.out wr HGW.out q HQM.out
              have HPX : Hid ((pinsAt T q).filter (fun p => !(p.1 == T.getD q 0)) = pinsAt T (q + 1)) := pinsAt_next (by have := HM.out; have := HQM.out; omega)
              rw [HPX.out] at HFR
              have HLA : Hid ((pinsAt T (q + 1)).any (fun p => p.2 == 0) = !lastAt T q j) := by
                show _ = _
                rw [pinsAt_any, lastAt_all, HJE.out, HM.out]
              generalize T.getD q 0 = tq at *
              clear h7
              go_wp2_with fail
              refine Calls.mono HFR.out ?_
              rintro e w6 ⟨rfl, h6⟩
              have HPD := Hid.mk' (pinw_pinned h6)
              rw [HLA.out] at HPD
              have H6 := Hid.mk' h6
              clear h6 HFR
              cases hla : lastAt T q j with
              | true =>
                rw [hla] at HPD HLA
                clear hla
                have HDR := Hid.mk' (pinw_drop H6.out HN1.out HLA.out)
                go_wp2_with fail
                refine Calls.mono HPD.out ?_
                rintro e w7 ⟨rfl, hw⟩
                have h2 := hw.symm
                subst h2
                clear hw
                go_wp2_with fail
                refine Calls.mono HDR.out ?_
                rintro e w8 ⟨rfl, s8, h8, hh8⟩
                have HDG := Hid.mk' (drop_gone h8 hh8)
                clear h8 hh8
                go_wp2_with fail
                refine Calls.mono HDG.out ?_
                rintro e w9 ⟨rfl, g9⟩
                have HG9 := Hid.mk' g9
                clear g9
                go_wp2_with fail
                refine Calls.mono (awake_any _) ?_
                rintro e wa ⟨rfl, ga⟩
                have HGA := Hid.mk' (HG9.out.trans ga)
                clear ga
                go_wp2
                go_ret
                exact ⟨rfl, HGA.out.below (Nat.le_refl _) (fun _ _ h => h)⟩
              | false =>
                rw [hla] at HPD HLA
                have HQ1 : Hid (q + 1 < m) := by
                  show _ < _
                  by_cases hz : q + 1 < m
                  · exact hz
                  · have h9 := lastAt_zero T q
                    have := HQM.out
                    rw [show q + 1 = j by have := HJE.out; omega, hla] at h9
                    cases h9
                clear hla
                go_wp2_with fail
                refine Calls.mono HPD.out ?_
                rintro e w7 ⟨rfl, hw⟩
                have h2 := hw.symm
                subst h2
                clear hw
                go_wp2
                exact ⟨⟨q + 1, .inl HQ1.out, by go_num, fun _ => HLA.out, H6.out⟩, by have := HQ1.out; simp [Go.RowKit.intOf]; omega⟩
        obtain ⟨rfl, hm0⟩ : q = 0 ∧ m = 0 := by omega
        have hmi : ¬ (((0 : Nat) : Int) < (l : Int)) := by have := HML.out; omega
        have HDR := Hid.mk' (pinw_drop hQ HN1.out (by
          rw [pinsAt_any]
          have h1 := HM.out
          rw [hm0] at h1
          rw [List.eq_nil_of_length_eq_zero h1.symm]
          rfl))
        clear hQ hqa hq hqm
        go_wp2_with fail
        refine Calls.mono HDR.out ?_
        rintro e w8 ⟨rfl, s8, h8, hh8⟩
        have HDG := Hid.mk' (drop_gone h8 hh8)
        clear h8 hh8
        go_wp2_with fail
        refine Calls.mono HDG.out ?_
        rintro e w9 ⟨rfl, g9⟩
        have HG9 := Hid.mk' g9
        clear g9
        go_wp2_with fail
        refine Calls.mono (awake_any _) ?_
        rintro e wa ⟨rfl, ga⟩
        have HGA := Hid.mk' (HG9.out.trans ga)
        clear ga
        go_wp2
        go_ret
        exact ⟨rfl, HGA.out.below (Nat.le_refl _) (fun _ _ h => h)⟩
set_option maxRecDepth 100000 in
set_option maxHeartbeats 80000000 in
theorem pins_great (x : Int) (v0 : Value) (ks : List Int) (y : Nat) (w : World) (hv : Nums w v0 ks) (hsz0 : 20 < ks.length) :
    Calls Try.prog 6 #[.int .i64 x, v0, .float .f64 y] w fun e w' => e = .returned (.bool true) ∧ Below w.heap.size w w' := by
  have hlen := hv.2.1
  have HI : Hid (∀ z ∈ ks, i64 z) := hv.1
  obtain ⟨T, hT⟩ : ∃ T, T = ks.take 20 := ⟨_, rfl⟩
  obtain ⟨m, hm⟩ : ∃ m, m = T.length := ⟨_, rfl⟩
  obtain ⟨l, hl⟩ : ∃ l, l = ks.length := ⟨_, rfl⟩
  have hml : m = min 20 l := by rw [hm, hT, List.length_take, hl]
  have HTI : Hid (∀ i, i < m → i64 (T.getD i 0)) := fun i hi => HI.out _ (by
    have hi' : i < T.length := by omega
    rw [List.getD_eq_getElem?_getD, List.getElem?_eq_getElem hi']
    exact List.mem_of_mem_take (i := 20) (by rw [← hT]; exact List.getElem_mem hi'))
  have HTC : Hid (∀ i, i < m → ∃ b off cap, v0 = .slice (some ⟨b, off, none⟩) l cap ∧ ∀ wr, Grow w wr → ∀ j, j < m → wr.cell? ⟨b, off + j, none⟩ = some (.int .i64 (T.getD j 0))) := fun i hi => by
    obtain ⟨b, off, cap, rfl, -, -, hc⟩ := hv.at (by omega)
    refine ⟨b, off, cap, by rw [hl], fun wr k j hj => ?_⟩
    have h1 := grow_cell k (hc j (by omega))
    rw [h1, hT]
    congr 2
    rw [List.getD_eq_getElem?_getD, List.getD_eq_getElem?_getD, List.getElem?_take, if_pos (by omega)]
  obtain ⟨ao, cap, rfl⟩ := hv.len
  rw [← hl] at hlen HTC ⊢
  obtain ⟨p, hp⟩ : ∃ p : Nat, x % 9 = (p : Int) := ⟨(x % 9).toNat, by have := Int.emod_nonneg x (b := 9) (by decide); omega⟩
  have hp9 : p < 9 := by have := Int.emod_lt_of_pos x (b := 9) (by decide); omega
  obtain ⟨n, hn⟩ : ∃ n : Nat, n = p + 1 := ⟨_, rfl⟩
  have HP := Hid.mk' (pick_any x 9 w (by decide) (by decide))
  rw [hp] at HP
  have e1 : (1 : Int) + (p : Int) = (n : Int) := by omega
  have hn9 : (n : Int) ≤ 9 := by omega
  have hn1 : 1 ≤ n := by omega
  have HN1 := Hid.mk' hn1
  have HN9 : Hid (n ≤ 9) := by show _ ≤ _; omega
  have HNW := Hid.mk' (fl_new w n hn1 (by omega))
  have HM := Hid.mk' hm
  have HML := Hid.mk' hml
  have hll : (l : Int) ≤ 140737488355328 := by omega
  have HSZ : Hid (20 < l ∧ m = 20) := by show _ ∧ _; omega
  clear hv hT hm hml hp hp9 hn hn1 hl hlen hsz0
  go_enter Try.func6, Try.ntmps6
  go_wp2_with fail
  refine Calls.mono HP.out ?_
  rintro e w' ⟨rfl, hw⟩
  have h2 := hw.symm
  subst h2
  clear hw
  go_wp2_with fail
  refine Calls.mono HNW.out ?_
  rintro e w1 ⟨gt, rfl, h1⟩
  have H1 : Hid (PinW w w1 gt n (frs 0) [] 0) := ⟨_, h1, rfl, rfl, rfl, Nat.le_refl _⟩
  clear h1 e1 HNW HP
  go_wp2
  go_loopw [9] (fun iv wr => ∃ i : Nat, i ≤ n ∧ iv = .int .i64 i ∧ PinW w wr gt n (frs i) [] i) (fun iv _ => n - (Go.RowKit.intOf iv).toNat)
  case atStart => exact ⟨0, Nat.zero_le _, rfl, H1.out⟩
  case round =>
    clear H1
    obtain ⟨i, hin, rfl, hI⟩ := hrel
    by_cases hlt : i < n
    · have hlti : (i : Int) < (n : Int) := by omega
      have HPT := Hid.mk' (pinw_put hI hlt HN9.out)
      clear hI
      go_wp2_with fail
      refine Calls.mono HPT.out ?_
      rintro e w2 ⟨rfl, h2⟩
      have HWM := Hid.mk' (fun y => pinw_warm (y := y) (k := i) h2 (by omega) (by have := HN9.out; omega) (by have := HN9.out; omega))
      clear h2
      go_wp2_with fail
      refine Calls.mono (HWM.out _) ?_
      rintro e w3 ⟨rfl, h3⟩
      have HW3 := Hid.mk' h3
      clear h3
      go_wp2
      exact ⟨⟨i + 1, by omega, by go_num, HW3.out⟩, by simp [Go.RowKit.intOf]; omega⟩
    have hlti : ¬ ((i : Int) < (n : Int)) := by omega
    obtain rfl : i = n := by omega
    have HW0 := Hid.mk' (pinw_warm (y := y) (k := 0) hI (by have := HN1.out; omega) HN9.out (by have := HN9.out; omega))
    clear hI hin hlt
    rename_i hin0 hlt0
    go_wp2_with fail
    refine Calls.mono HW0.out ?_
    rintro e w2 ⟨rfl, h2⟩
    have HW2 : Hid (PinW w w2 gt i (frs i) ((T.take 0).map (fun t => (t, (0 : Int)))) (i + 1)) := h2
    clear h2 HW0
    go_wp2
    go_loopw [10] (fun iv wr => ∃ j : Nat, j ≤ m ∧ iv = .int .i64 j ∧ PinW w wr gt i (frs i) ((T.take j).map (fun t => (t, (0 : Int)))) (i + 1)) (fun iv _ => m - (Go.RowKit.intOf iv).toNat)
    case atStart => exact ⟨0, Nat.zero_le _, rfl, HW2.out⟩
    case round =>
      clear HW2
      obtain ⟨j, hjm, rfl, hJ⟩ := hrel
      by_cases hjlt : j < m
      · have hji : (j : Int) < (l : Int) := by have := HML.out; omega
        have hj20 : (j : Int) < 20 := by have := HML.out; omega
        obtain ⟨b, off, cap', e1, hc⟩ := HTC.out j hjlt
        simp only [Value.slice.injEq] at e1
        obtain ⟨rfl, -, rfl⟩ := e1
        obtain ⟨s0, hs0, -⟩ := hJ.ex
        have cj : wr.cell? ⟨b, off + j, none⟩ = some (.int .i64 (T.getD j 0)) := hc wr hs0.grow j hjlt
        have HPN := Hid.mk' (pinw_pin (t := T.getD j 0) hJ (HTI.out j hjlt) HN1.out (by rw [List.length_map, List.length_take]; have := HML.out; omega))
        have HNX : Hid ((T.take j).map (fun t => (t, (0 : Int))) ++ [(T.getD j 0, 0)] = (T.take (j + 1)).map (fun t => (t, (0 : Int)))) := by
          show _ = _
          have hj' : j < T.length := by have := HM.out; omega
          rw [List.take_succ_eq_append_getElem hj', List.map_append, List.getD_eq_getElem?_getD, List.getElem?_eq_getElem hj']
          rfl
        generalize T.getD j 0 = tj at *
        clear hJ hc hs0
        go_wp2_with fail
        refine Calls.mono HPN.out ?_
        rintro e w3 ⟨rfl, h3⟩
        rw [HNX.out] at h3
        have HW3 := Hid.mk' h3
        clear h3
        go_wp2
        exact ⟨⟨j + 1, by omega, by go_num, HW3.out⟩, by simp [Go.RowKit.intOf]; omega⟩
      have hxa : (j : Int) < (l : Int) := by have := HSZ.out; omega
      have hxb : ¬ ((j : Int) < 20) := by have := HSZ.out; omega
      have HW3 : Hid (PinW w wr gt i (frs i) (pinsAt T 0) (i + 1)) := by
        have h5 : T.take j = T := List.take_of_length_le (by have := HM.out; omega)
        rw [h5] at hJ
        rw [pinsAt_zero]
        exact hJ
      have HAN0 : Hid (0 < m → (pinsAt T 0).any (fun p => p.2 == 0) = true) := fun h0 => by
        rw [pinsAt_any]
        have := HM.out
        cases T with
        | nil => simp at this; omega
        | cons a l => rfl
      clear hJ hjm hjlt
      go_wp2
      go_loopw [11, 12, 13, 14, 15, 16, 17] (fun iv _ _ _ _ _ _ wr => ∃ q : Nat, (q < m ∨ (q = 0 ∧ m = 0)) ∧ iv = .int .i64 q ∧ (q < m → (pinsAt T q).any (fun p => p.2 == 0) = true) ∧ PinW w wr gt i (frs i) (pinsAt T q) (i + 1)) (fun iv _ _ _ _ _ _ _ => m - (Go.RowKit.intOf iv).toNat)
      case atStart => exact ⟨0, by omega, rfl, HAN0.out, HW3.out⟩
      case round =>
        clear HW3 HAN0
        obtain ⟨q, hq, rfl, hqa, hQ⟩ := hrel
        by_cases hqm : q < m
        · have hqi : (q : Int) < (l : Int) := by have := HML.out; omega
          have hq20 : (q : Int) < 20 := by have := HML.out; omega
          have HQM := Hid.mk' hqm
          have HAN := Hid.mk' (hqa hqm)
          have HVC := Hid.mk' (pinw_victim hQ HAN.out)
          obtain ⟨b, off, cap', e1, hc⟩ := HTC.out q hqm
          simp only [Value.slice.injEq] at e1
          obtain ⟨rfl, -, rfl⟩ := e1
          have HC := Hid.mk' hc
          clear hQ hqa hq hqm hc
          go_wp2_with fail
          refine Calls.mono HVC.out ?_
          rintro e w4 ⟨⟨kv, cv, rfl, hk1, hk2⟩, h4⟩
          have HDB := Hid.mk' (pinw_busy h4 HN1.out HAN.out)
          have hcase : (cv = 0 ∧ (kv == 0) = false ∧ ((i : Int) == 1) = false) ∨ ((cv == 0) = false ∧ ((i : Int) == 1) = false) ∨ (cv = 12 ∧ ((i : Int) == 1) = true) := by
            by_cases hc0 : cv = 0
            · have h1 : i ≠ 1 := fun e => by have := hk2 e; omega
              have h2 := hk1 hc0
              exact .inl ⟨hc0, by simpa using h2, by simp; omega⟩
            · by_cases hi1 : i = 1
              · exact .inr (.inr ⟨hk2 hi1, by simp; omega⟩)
              · exact .inr (.inl ⟨by simpa using hc0, by simp; omega⟩)
          clear h4 hk1 hk2 HVC
          go_wp2_with fail
          refine Calls.mono HDB.out ?_
          rintro e w5 ⟨rfl, h5⟩
          have H5 := Hid.mk' h5
          clear h5 HDB
          rcases hcase with ⟨rfl, hk0, hi1⟩ | ⟨hc0, hi1⟩ | ⟨rfl, hi1⟩
          all_goals
            go_wp2
            go_loopw [15, 14, 16, 17] (fun jv lv _ _ wr => ∃ j : Nat, q + 1 ≤ j ∧ j ≤ m ∧ jv = .int .i64 j ∧ lv = .bool (lastAt T q j) ∧ Grow w5 wr) (fun jv _ _ _ _ => m - (Go.RowKit.intOf jv).toNat)
            case atStart => exact ⟨q + 1, Nat.le_refl _, HQM.out, by go_num, by rw [lastAt_zero], But.refl _ _⟩
            case round =>
              obtain ⟨j, hj1, hjm, rfl, rfl, hG⟩ := hrel
              have HG := Hid.mk' hG
              clear hG
              obtain ⟨sq, hsq, -⟩ := H5.out.ex
              have HGW := Hid.mk' (hsq.grow.trans HG.out)
              clear hsq
              by_cases hjlt : j < m
              · have hji : (j : Int) < (l : Int) := by have := HML.out; omega
                have hj20 : (j : Int) < 20 := by have := HML.out; omega
                have HLX := Hid.mk' (lastAt_next (T := T) (i := q) (j := j) (by have := HM.out; omega) hj1)
                have HCJ := Hid.mk' (fun wz (kz : Grow w wz) => HC.out wz kz j hjlt)
                obtain ⟨tj, htj⟩ : ∃ tj, tj = T.getD j 0 := ⟨_, rfl⟩
                rw [← htj] at HLX HCJ
                clear htj
                go_wp2
                obtain ⟨wb, hwb⟩ : ∃ wb, wb = wr := ⟨_, rfl⟩
                subst hwb
                go_loopw [17, 16] (fun kv gv wr => ∃ k : Nat, k ≤ q + 1 ∧ kv = .int .i64 k ∧ gv = .bool (goneAt T k tj) ∧ Grow wb wr) (fun kv _ _ => q + 1 - (Go.RowKit.intOf kv).toNat)
                case atStart => exact ⟨0, Nat.zero_le _, rfl, by rw [goneAt_zero], But.refl _ _⟩
                case round =>
                  obtain ⟨k, hk1, rfl, rfl, hG2⟩ := hrel
                  have HG2 := Hid.mk' hG2
                  clear hG2
                  by_cases hkq : k ≤ q
                  · have hkqi : (k : Int) ≤ (q : Int) := by omega
                    have hki : (k : Int) < (l : Int) := by have := HML.out; have := HQM.out; omega
                    have HGX : Hid (goneAt T (k + 1) tj = (goneAt T k tj || (T.getD k 0 == tj))) := gone_next (by have := HM.out; have := HQM.out; omega) tj
                    have HCK : Hid (∀ wz, Grow w wz → wz.cell? ⟨b, off + k, none⟩ = some (.int .i64 (T.getD k 0))) := fun wz kz => HC.out wz kz k (by have := HQM.out; omega)
                    obtain ⟨tk, htk⟩ : ∃ tk, tk = T.getD k 0 := ⟨_, rfl⟩
                    rw [← htk] at HGX HCK
                    clear htk
                    cases hgo : goneAt T k tj with
                    | true =>
                      rw [hgo] at HGX
                      clear hgo
                      go_upto_region 31 with fail
                      refine region_chain [] [0, 1, 2, 3, 4, 5, 6, 7, 8, 9, 10, 11, 12] (Grow wr) (Grow wr) (by kernel_rfl) (by kernel_rfl) (fun _ _ h k => h.trans k) (fun _ h => h) ((But.refl _ wr).drew) ?_
                      intro ι hne X hX
                      iterate 1 (refine still_step rfl (fun K hK => ?_); go_simp; refine hK _ ?_; clear hK K)
                      refine still_step rfl (fun K hK => ?_)
                      have hK' := fun (a : Act) h1 h4 => hK a (still_pass1 (a := a) 1 false 114 (.bool true) [2, 3, 4, 5, 6, 7, 8, 9, 10] [11, 12] [115, 116, 117, 118, 119, 120, 121, 122, 123] rfl rfl (fun h => by cases h) (by kernel_rfl) (by kernel_rfl) h1 h4)
                      clear hK
                      go_simp
                      refine hK' _ (by kernel_rfl) ?_
                      clear hK' K
                      intro K hK
                      simp only [undefL]
                      go_simp
                      refine hK _ ?_
                      clear hK K
                      iterate 2 (refine still_step rfl (fun K hK => ?_); go_simp; refine hK _ ?_; clear hK K)
                      refine still_nil ?_
                      clear hX hne
                      intro w6 hw6
                      have HG6 := Hid.mk' (HG2.out.trans hw6)
                      clear hw6
                      go_wp2
                      exact ⟨⟨k + 1, by omega, by go_num, by rw [HGX.out]; rfl, HG6.out⟩, by simp [Go.RowKit.intOf]; omega⟩
                    | false =>
                      rw [hgo] at HGX
                      clear hgo
                      by_cases hte : tk = tj
                      · have hteb : (tk == tj) = true := by simpa using hte
                        rw [hteb] at HGX
                        clear hte
                        go_upto_region 31 with fail
                        refine region_chain [] [0, 1, 2, 3, 4, 5, 6, 7, 8, 9, 10, 11, 12] (Grow wr) (Grow wr) (by kernel_rfl) (by kernel_rfl) (fun _ _ h k => h.trans k) (fun _ h => h) ((But.refl _ wr).drew) ?_
                        intro ι hne X hX
                        have dk : ∀ x, (X x).cell? ⟨b, off + k, none⟩ = some (.int .i64 tk) := fun x => HCK.out _ (HGW.out.trans (HG2.out.trans (hX x)))
                        have dj : ∀ x, (X x).cell? ⟨b, off + j, none⟩ = some (.int .i64 tj) := fun x => HCJ.out _ (HGW.out.trans (HG2.out.trans (hX x)))
                        iterate 13 (refine still_step rfl (fun K hK => ?_); go_simp; refine hK _ ?_; clear hK K)
                        refine still_nil ?_
                        clear hX hne dk dj
                        intro w6 hw6
                        have HG6 := Hid.mk' (HG2.out.trans hw6)
                        clear hw6
                        go_wp2
                        exact ⟨⟨k + 1, by omega, by go_num, by rw [HGX.out]; rfl, HG6.out⟩, by simp [Go.RowKit.intOf]; omega⟩
                      · have hteb : (tk == tj) = false := by simpa using hte
                        rw [hteb] at HGX
                        clear hte
                        go_upto_region 31 with fail
                        refine region_chain [] [0, 1, 2, 3, 4, 5, 6, 7, 8, 9, 10, 11, 12] (Grow wr) (Grow wr) (by kernel_rfl) (by kernel_rfl) (fun _ _ h k => h.trans k) (fun _ h => h) ((But.refl _ wr).drew) ?_
                        intro ι hne X hX
                        have dk : ∀ x, (X x).cell? ⟨b, off + k, none⟩ = some (.int .i64 tk) := fun x => HCK.out _ (HGW.out.trans (HG2.out.trans (hX x)))
                        have dj : ∀ x, (X x).cell? ⟨b, off + j, none⟩ = some (.int .i64 tj) := fun x => HCJ.out _ (HGW.out.trans (HG2.out.trans (hX x)))
                        iterate 13 (refine still_step rfl (fun K hK => ?_); go_simp; refine hK _ ?_; clear hK K)
                        refine still_nil ?_
                        clear hX hne dk dj
                        intro w6 hw6
                        have HG6 := Hid.mk' (HG2.out.trans hw6)
                        clear hw6
                        go_wp2
                        exact ⟨⟨k + 1, by omega, by go_num, by rw [HGX.out]; rfl, HG6.out⟩, by simp [Go.RowKit.intOf]; omega⟩
                  have hkqi : ¬ ((k : Int) ≤ (q : Int)) := by omega
                  have HKE : Hid (k = q + 1) := by show _ = _; omega
                  have HLY : Hid (lastAt T q (j + 1) = (lastAt T q j && goneAt T k tj)) := by rw [HKE.out]; exact HLX.out
                  have HG6 := Hid.mk' (HG.out.trans HG2.out)
                  cases hla : lastAt T q j with
                  | true =>
                    rw [hla] at HLY
                    clear hla
                    go_wp2
                    exact ⟨⟨j + 1, by omega, by omega, by go_num, by rw [HLY.out]; rfl, HG6.out⟩, by simp [Go.RowKit.intOf]; omega⟩
                  | false =>
                    rw [hla] at HLY
                    clear hla
                    go_wp2
                    exact ⟨⟨j + 1, by omega, by omega, by go_num, by rw [HLY.out]; rfl, HG6.out⟩, by simp [Go.RowKit.intOf]; omega⟩
              have hxa : (j : Int) < (l : Int) := by have := HSZ.out; omega
              have hxb : ¬ ((j : Int) < 20) := by have := HSZ.out; omega
              have HJE : Hid (j = m) := by show _ = _; omega
              have h7 := H5.out.grow HG.out
              have HFR := Hid.mk' (pinw_free (t := T.getD q 0) h7 (HTI.out q HQM.out))
              have cq : wr.cell? ⟨b, off + q, none⟩ = some (.int .i64 (T.getD q 0)) := HC.out wr HGW.out q HQM.out
              have HPX : Hid ((pinsAt T q).filter (fun p => !(p.1 == T.getD q 0)) = pinsAt T (q + 1)) := pinsAt_next (by have := HM.out; have := HQM.out; omega)
              rw [HPX.out] at HFR
              have HLA : Hid ((pinsAt T (q + 1)).any (fun p => p.2 == 0) = !lastAt T q j) := by
                show _ = _
                rw [pinsAt_any, lastAt_all, HJE.out, HM.out]
              generalize T.getD q 0 = tq at *
              clear h7
              go_wp2_with fail
              refine Calls.mono HFR.out ?_
              rintro e w6 ⟨rfl, h6⟩
              have HPD := Hid.mk' (pinw_pinned h6)
              rw [HLA.out] at HPD
              have H6 := Hid.mk' h6
              clear h6 HFR
              cases hla : lastAt T q j with
              | true =>
                rw [hla] at HPD HLA
                clear hla
                have HDR := Hid.mk' (pinw_drop H6.out HN1.out HLA.out)
                go_wp2_with fail
                refine Calls.mono HPD.out ?_
                rintro e w7 ⟨rfl, hw⟩
                have h2 := hw.symm
                subst h2
                clear hw
                go_wp2_with fail
                refine Calls.mono HDR.out ?_
                rintro e w8 ⟨rfl, s8, h8, hh8⟩
                have HDG := Hid.mk' (drop_gone h8 hh8)
                clear h8 hh8
                go_wp2_with fail
                refine Calls.mono HDG.out ?_
                rintro e w9 ⟨rfl, g9⟩
                have HG9 := Hid.mk' g9
                clear g9
                go_wp2_with fail
                refine Calls.mono (awake_any _) ?_
                rintro e wa ⟨rfl, ga⟩
                have HGA := Hid.mk' (HG9.out.trans ga)
                clear ga
                go_wp2
                go_ret
                exact ⟨rfl, HGA.out.below (Nat.le_refl _) (fun _ _ h => h)⟩
              | false =>
                rw [hla] at HPD HLA
                have HQ1 : Hid (q + 1 < m) := by
                  show _ < _
                  by_cases hz : q + 1 < m
                  · exact hz
                  · have h9 := lastAt_zero T q
                    have := HQM.out
                    rw [show q + 1 = j by have := HJE.out; omega, hla] at h9
                    cases h9
                clear hla
                go_wp2_with fail
                refine Calls.mono HPD.out ?_
                rintro e w7 ⟨rfl, hw⟩
                have h2 := hw.symm
                subst h2
                clear hw
                go_wp2
                exact ⟨⟨q + 1, .inl HQ1.out, by go_num, fun _ => HLA.out, H6.out⟩, by have := HQ1.out; simp [Go.RowKit.intOf]; omega⟩
        exact absurd (show m = 0 by omega) (by have := HSZ.out; omega)
theorem framesPins_walk (x : Int) (v0 : Value) (ks : List Int) (y : Nat) (w : World) (_ : (Lit.int .i64 x).wf = true) (hv : Nums w v0 ks) (_ : (Lit.float .f64 y).wf = true) :
    Calls Try.prog 6 #[.int .i64 x, v0, .float .f64 y] w fun e w' => e = .returned (.bool true) ∧ Below w.heap.size w w' := by
  by_cases h : ks.length ≤ 20
  · exact pins_small x v0 ks y w hv h
  · exact pins_great x v0 ks y w hv (by omega)

set_option maxRecDepth 100000 in
theorem framesPins_lifted (os : Os) (started : os.Started) (H : Type) (enc : TypeId × Value → H) :
    ReturnsInHanded {} Try.checked os 6 .any (Rows.framesPinsSpec.pre6 enc Try.prog Try.f6 Rows.framesPinsRow.domain false) (Rows.framesPinsSpec.post enc Try.prog Try.f6 false true false false) := by
  refine returnsInHanded_of_change_sized (C := Try.checked) (by kernel_rfl) started (by kernel_rfl) Try.func6
    (ChangeSpec.witness6 (enc := enc) (C := Try.checked) false ⟨#[], #[.int .i64 0, .slice none 0 0, .float .f64 0], []⟩ 8 (by kernel_rfl) (by kernel_rfl) (by kernel_rfl) (by kernel_rfl)) ?_
  intro W base args ds gs before hval0 hW hcnd hsz0 _
  have hsz : (DataW.weightsEach Try.prog (Try.f6.params.toList ++ Rows.framesPinsSpec.plain.varTypes Try.prog) (ds ++ gs)).all (· ≤ reachBytes) = true := hsz0
  clear hsz0
  have hval : ∀ (j : Nat) t v, Try.f6.params[j]? = some t → args[j]? = some v → Value.okWide Try.prog W .any base t v := hval0
  have hW' := hW
  obtain ⟨p, q, hA0, hV, rfl, hfz, hnd⟩ := hW
  have hA : DataW.TrodAll enc Try.prog W 0 (fun _ => true) true Try.f6.params.toList args.toList ds p := hA0
  rw [Try.params6] at hA hval hsz
  obtain ⟨v0, vs0, d0, ds0, p0, q0, hargs, rfl, rfl, h0, r0⟩ := trodAll_cons hA
  obtain ⟨v1, vs1, d1, ds1, p1, q1, rfl, rfl, rfl, h1, r1⟩ := trodAll_cons r0
  obtain ⟨v2, vs2, d2, ds2, p2, q2, rfl, rfl, rfl, h2, r2⟩ := trodAll_cons r1
  obtain ⟨rfl, rfl, rfl⟩ := trodAll_nil r2
  obtain rfl : args = #[v0, v1, v2] := by cases args; simp_all
  obtain ⟨rfl, rfl⟩ := trodVars_none hV
  obtain ⟨a0, rfl, rfl, rfl, w0⟩ := open_int Try.underlying3 (hval 0 3 v0 rfl rfl) h0
  have lt1 : ∀ x ∈ p1, x.block < W.heap.size := by obtain ⟨m, hm⟩ := h1; exact DataW.trod_lt m _ _ _ hm
  obtain ⟨z1, w1⟩ := view_nums Try.underlying40 Try.underlying3 (by kernel_rfl) (by kernel_rfl) (hval 1 40 v1 rfl rfl) h1 lt1 hsz (j := 1) rfl rfl
  obtain ⟨a2, rfl, rfl, rfl, w2⟩ := open_float Try.underlying32 (hval 2 32 v2 rfl rfl) h2
  clear hA0 hval0
  refine (framesPins_walk a0 v1 z1 a2 W w0 w1 w2).mono fun e W' ⟨he, bel⟩ => ?_
  subst he
  exact ⟨_, rfl, _, _, _, [], _, [], hW', trodAll_mk1 (shut_bool Try.underlying4 _), (trodAll_cons_mk (shut_int Try.underlying3 w0) (trodAll_cons_mk (Below.trod (by kernel_rfl) (by kernel_rfl) (of_decide_eq_true (by kernel_rfl)) h1 bel lt1) (trodAll_cons_mk (shut_float Try.underlying32 w2) trodAll_mk0))), rfl, bel.frame _, fun h => by cases h⟩

theorem framesPins_holds : Rows.FramesPinsSaid :=
  OpenClaim.holds_of_wide 6 Try.f6 rfl rfl rfl rfl rfl rfl rfl ⟨rfl, rfl, rfl, rfl, rfl⟩ rfl rfl rfl rfl rfl (by kernel_rfl) Try.func6 (by kernel_rfl)
    (of_decide_eq_true (by kernel_rfl)) (by unfold Func.isWrapper; first | (rw [if_pos (by decide +kernel)]; kernel_rfl) | (rw [if_neg (by decide +kernel)]; exact ⟨rfl, rfl⟩))
    (fun os started H enc _ => framesPins_lifted os started H enc)
#print axioms framesPins_holds
end Go.Proofs.Ytakomnmpkonjpaa
