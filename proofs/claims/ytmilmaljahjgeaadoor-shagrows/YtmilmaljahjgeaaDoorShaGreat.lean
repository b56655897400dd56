/- What the laws ask besides: great. -/
import Derived.Test.YtmilmaljahjgeaaDoorShaDigestsP
import Derived.Test.YtmilmaljahjgeaaDoorRefJoin
namespace Go.Proofs.YtmilmaljahjgeaaDoor
open Go.RowKit

/-- What great tells: whether all is small. -/
def Small (w : World) (n fl : Nat) (e : Ending) (w' : World) : Prop := ∃ b, e = .returned (.bool b) ∧ w' = w ∧ (b = false → n + fl ≤ 20000)

set_option maxRecDepth 100000 in
set_option maxHeartbeats 4000000 in
theorem great_any {w : World} {p : Value} {xss : List (List Nat)} (hp : Ps w p xss) (hx : xss.length ≤ 140737488351232) :
    Calls Tryd.prog 13 #[p] w (Small w xss.length xss.flatten.length) := by
  obtain ⟨ao, cap, rfl, hps⟩ := hp.gen
  have HPS := Hid.mk' hps
  obtain ⟨n, hn⟩ : ∃ n, n = xss.length := ⟨_, rfl⟩
  obtain ⟨F, hF⟩ : ∃ F : Nat → Nat, F = fun k => (xss.take k).flatten.length := ⟨_, rfl⟩
  obtain ⟨G, hG⟩ : ∃ G : Nat → List Nat, G = fun k => xss.getD k [] := ⟨_, rfl⟩
  have HF : Hid (∀ k, k < n → F (k + 1) = F k + (G k).length) := by
    rw [hF, hG]; intro k hk
    show (xss.take (k + 1)).flatten.length = _
    rw [flat_next xss k (by omega), List.length_append]
  have HF0 : Hid (F 0 = 0) := by rw [hF]; rfl
  have HFE : Hid (F n = xss.flatten.length) := by show _ = _; rw [hF, hn]; simp
  have HPG : Hid (0 < n → ∃ b off, ao = some ⟨b, off, none⟩ ∧ b < w.heap.size ∧ ∀ i, i < n → ∃ u, w.cell? ⟨b, off + i, none⟩ = some u ∧ Bs w u (G i)) := by rw [hn, hG]; exact HPS.out
  rw [← hn, ← HFE.out]
  rw [← hn] at hx
  clear hp hps HPS hF hG HFE hn
  go_enter Tryd.func13, Tryd.ntmps13
  go_wp2
  go_loopw [3, 4] (fun s i wr => ∃ k N : Nat, k ≤ n ∧ i = .int .i64 k ∧ s = .int .i64 N ∧ N ≤ 40002 ∧ (N ≤ 20000 → N = k + F k) ∧ wr = w) (fun _ i _ => n - (intOf i).toNat)
  case atStart => exact ⟨0, 0, Nat.zero_le _, rfl, rfl, by decide, fun _ => by rw [HF0.out], rfl⟩
  case round =>
    obtain ⟨k, N, hkn, rfl, rfl, hN, hr, rfl⟩ := hrel
    have HR := Hid.mk' hr
    clear hr
    by_cases hlt : k < n
    · have hlti : (k : Int) < (n : Int) := by omega
      by_cases hsm : N ≤ 20000
      · have hsmi : (N : Int) ≤ 20000 := by omega
        obtain ⟨b, off, rfl, hb, hc⟩ := HPG.out (by omega)
        obtain ⟨u, hu, hbs⟩ := hc k hlt
        have hml := hbs.2.1
        obtain ⟨au, cu, rfl, -, -⟩ := hbs.gen
        have hFk := HF.out k hlt
        have hNk := HR.out hsm
        clear hc hbs
        generalize (G k).length = m at *
        have HFk := Hid.mk' hFk
        have HNk := Hid.mk' hNk
        clear hFk hNk
        by_cases hm : m < 20001
        · have hmi : (m : Int) < 20001 := by omega
          go_wp2
          refine ⟨⟨k + 1, N + 1 + m, by omega, by go_num, by go_num, by omega, fun _ => ?_, trivial⟩, by simp [intOf]; omega⟩
          rw [HFk.out, HNk.out]; omega
        · have hmi : ¬ (m : Int) < 20001 := by omega
          have HMI : Hid ((if (20001 : Int) < (m : Int) then (20001 : Int) else (m : Int)) = 20001) := by show _ = _; split <;> omega
          go_wp2
          rw [HMI.out]
          refine ⟨⟨k + 1, N + 1 + 20001, by omega, by go_num, by go_num, by omega, fun h => absurd h (by omega), trivial⟩, by simp [intOf]; omega⟩
      · have hsmi : ¬ (N : Int) ≤ 20000 := by omega
        go_wp2
        go_ret
        exact ⟨true, rfl, rfl, nofun⟩
    · have hge : ¬ ((k : Int) < (n : Int)) := by omega
      by_cases hsm : N ≤ 20000
      · have hsmi : (N : Int) ≤ 20000 := by omega
        have hkn' : k = n := by omega
        have HNk := Hid.mk' (HR.out hsm)
        rw [hkn'] at HNk
        clear hkn'
        have hd2 : decide ((20000 : Int) < (N : Int)) = false := decide_eq_false (by omega)
        have HD2 := Hid.mk' hd2
        clear hd2
        go_wp2
        go_ret
        refine ⟨false, by simp [HD2.out], rfl, fun _ => ?_⟩
        rw [← HNk.out]; exact hsm
      · have hsmi : ¬ (N : Int) ≤ 20000 := by omega
        go_wp2
        go_ret
        exact ⟨true, rfl, rfl, nofun⟩
end Go.Proofs.YtmilmaljahjgeaaDoor
