/- The reference's First. -/
import Derived.Test.YtidblaepklgkcaaPlAwake
namespace Go.Proofs.Ytidblaepklgkcaa
open Go.RowKit

def sumI (l : List Int) : Int := l.foldl (· + ·) 0
theorem sumI_take {l : List Int} {i : Nat} {u : Int} (h : l[i]? = some u) : sumI (l.take (i + 1)) = sumI (l.take i) + u := by
  have h3 := List.getElem?_eq_some_iff.1 h
  unfold sumI
  rw [List.take_succ_eq_append_getElem h3.1, List.foldl_append, h3.2]; rfl
def Pn.first (p : Pn) (lv : Nat) : Int := if lv ≤ 1 then p.pages else p.pages + p.counters + sumI (p.levels.take (lv - 2))
set_option maxRecDepth 100000 in
set_option maxHeartbeats 2000000 in
theorem rfirst_any (w : World) (p : Pn) (v : Value) (lv : Nat) (h1 : 1 ≤ lv) (h2 : lv ≤ p.levels.length + 2) (hv : Nums w v p.levels) (hlen : p.levels.length ≤ 1000) (hp0 : 0 ≤ p.pages ∧ p.pages ≤ 1000000) (hc0 : 0 ≤ p.counters ∧ p.counters ≤ 1000000) (hs : ∀ i, 0 ≤ sumI (p.levels.take i) ∧ sumI (p.levels.take i) ≤ 1000000) : Calls Try.prog 42 #[pval p v, .int .i64 (lv : Int)] w fun e w' => e = .returned (.int .i64 (p.first lv)) ∧ Grow w w' := by
  obtain ⟨W, gp, hbx⟩ := box_pl w p v
  have HW := Hid.mk' hbx.ew
  have HGP := Hid.mk' hbx.eg
  have HG := Hid.mk' hbx.grow
  have c0 : W.cell? ⟨gp, 0, none⟩ = some (.int .i64 p.pages) := hbx.blk.cell 0
  have c2 : W.cell? ⟨gp, 2, none⟩ = some (.int .i64 p.counters) := hbx.blk.cell 2
  have c3 : W.cell? ⟨gp, 3, none⟩ = some v := hbx.blk.cell 3
  have HV := Hid.mk' (hv.grow hbx.grow)
  unfold Pn.first
  obtain ⟨q0, r0⟩ : ∃ q, q = p.pages := ⟨_, rfl⟩
  obtain ⟨q2, r2⟩ : ∃ q, q = p.counters := ⟨_, rfl⟩
  obtain ⟨ls, rl⟩ : ∃ q, q = p.levels := ⟨_, rfl⟩
  rw [← r0] at c0 hp0 ⊢
  rw [← r2] at c2 hc0 ⊢
  rw [← rl] at HV hlen hs h2 ⊢
  have hp1 := hp0.1
  have hp2 := hp0.2
  have hc1 := hc0.1
  have hc2 := hc0.2
  have HS := Hid.mk' hs
  obtain ⟨la, lc, hve⟩ := HV.out.len
  obtain ⟨ln, hln⟩ : ∃ n, n = ls.length := ⟨_, rfl⟩
  rw [← hln] at hve h2 hlen
  have HLN := Hid.mk' hln
  have hlvi : (lv : Int) ≤ 1002 := by omega
  have H2 := Hid.mk' h2
  unfold pval
  obtain ⟨N, hN⟩ : ∃ N, N = (pcells p v).toArray := ⟨_, rfl⟩
  rw [← hN] at HW ⊢
  have hl0 : (0 : Int) < (lv : Int) := by omega
  clear hbx hv hlen hs hp0 hc0 r0 r2 rl hln hN h2
  subst hve
  by_cases hl : lv ≤ 1
  · have hl1 : ¬ (1 : Int) < (lv : Int) := by omega
    have hl2 : ¬ (2 : Int) < (lv : Int) := by omega
    rw [if_pos hl]
    clear hl h1
    go_enter Try.func42, Try.ntmps42
    go_upto_region 1 with fail
    rw [← HW.out, ← HGP.out]
    clear HW HGP
    go_wp2
    go_loopw [5, 6] (fun sv iv wr => sv = .int .i64 q0 ∧ iv = .int .i64 2 ∧ wr = W) (fun _ _ _ => 0)
    case atStart => exact ⟨rfl, rfl, rfl⟩
    case round =>
      obtain ⟨rfl, rfl, rfl⟩ := hrel
      go_wp2
      go_ret
      exact ⟨rfl, HG.out⟩
  · have hl1 : (1 : Int) < (lv : Int) := by omega
    rw [if_neg hl]
    have HL := Hid.mk' hl
    clear hl h1
    go_enter Try.func42, Try.ntmps42
    go_upto_region 1 with fail
    rw [← HW.out, ← HGP.out]
    clear HW HGP
    go_wp2
    go_loopw [5, 6] (fun sv iv wr => ∃ (i : Nat), i + 2 ≤ lv ∧ sv = .int .i64 (q0 + q2 + sumI (ls.take i)) ∧ iv = .int .i64 ((i : Int) + 2) ∧ wr = W) (fun _ iv _ => lv - (intOf iv).toNat)
    case atStart => exact ⟨0, by have := HL.out; omega, by show _ = Value.int .i64 (q0 + q2 + 0); rw [Int.add_zero], rfl, rfl⟩
    case round =>
      obtain ⟨i, hil, rfl, rfl, rfl⟩ := hrel
      have hsb := HS.out i
      generalize hsm : sumI (ls.take i) = sm at hsb ⊢
      have HSM := Hid.mk' hsm
      have s1 := hsb.1
      have s2 := hsb.2
      by_cases hlt : i + 2 < lv
      · have hlti : (i : Int) + 2 < (lv : Int) := by omega
        obtain ⟨bb, o1, k1, e1, -, -, hc1⟩ := HV.out.at (by have := HLN.out; have := H2.out; omega)
        rw [← HLN.out] at e1
        simp only [Value.slice.injEq] at e1
        obtain ⟨rfl, -, rfl⟩ := e1
        have h9 : i < ls.length := by have := HLN.out; have := H2.out; omega
        obtain ⟨u, hu⟩ : ∃ u, ls[i]? = some u := ⟨_, List.getElem?_eq_getElem h9⟩
        have cu := hc1 i h9
        rw [List.getD_eq_getElem?_getD, hu, Option.getD_some] at cu
        have hst := sumI_take hu
        have hs3 := HS.out (i + 1)
        rw [hst, hsm] at hs3
        rw [hsm] at hst
        have HST := Hid.mk' hst
        have s3 := hs3.1
        have s4 := hs3.2
        have hix : (i : Int) + 2 - 2 = (i : Int) := by omega
        have hil2 : (i : Int) < (ln : Int) := by have := HLN.out; omega
        clear hc1 hu hst hs3 h9 hsm hsb hil hlt
        go_wp2
        exact ⟨⟨i + 1, by omega, by rw [HST.out]; congr 1; omega, by first | rfl | (congr 1; omega), trivial⟩, by simp [intOf]; omega⟩
      · have hlti : ¬ (i : Int) + 2 < (lv : Int) := by omega
        have HIE : Hid (lv - 2 = i) := Hid.mk' (by omega)
        clear hsm hsb hil hlt
        go_wp2
        go_ret
        exact ⟨by rw [HIE.out, HSM.out]; rfl, HG.out⟩
end Go.Proofs.Ytidblaepklgkcaa
