/- count: the reference's bytes, Fault, Nonce. -/
import Derived.Test.YtffiphdbjohilaaCtAwake
namespace Go.Proofs.Ytffiphdbjohilaa
open Go.ChangeShapes Go.WideShapes Go.ChangeAt Go.RowKit Go.Deep

theorem rput_ok {v : Value} {xs : List Nat} {w : World} (hv : Bs w v xs) (hl : xs.length ≤ 1000) (n s : Nat) (h1 : 1 ≤ s) (h8 : s ≤ 8) (hn : n / 256 ^ s = 0) (hn64 : n < 18446744073709551616) :
    Calls Try.prog 30 #[v, .int .u64 n, .int .i64 s] w fun e w' => ∃ v', e = .returned (.tuple #[v', .int .i64 0]) ∧ Bs w' v' (xs ++ be n s) ∧ But (fun _ => False) w w' := by
  refine (refPut_any hv (by omega) n s h1 h8 hn64).mono ?_
  rintro e w' ⟨v', f, rfl, hb, ⟨h, _⟩ | ⟨_, rfl, h⟩⟩
  · exact absurd hn h
  · exact ⟨v', rfl, h, But.of hb⟩
set_option maxRecDepth 100000 in
set_option maxHeartbeats 2000000 in
theorem rbytes_any {w : World} (x : En) (hx : x.ok) :
    Calls Try.prog 22 #[evalE x] w fun r w' => ∃ v, r = .returned v ∧ Bs w' v (ebs x) ∧ But (fun _ => False) w w' := by
  obtain ⟨E, B, S⟩ := x
  obtain ⟨h1, h2, h3⟩ := hx
  simp only at h1 h2 h3
  obtain ⟨g, hg⟩ : ∃ g, g = w.heap.size := ⟨_, rfl⟩
  obtain ⟨W0, hW0⟩ : ∃ W0, W0 = w.alloc (.cells #[.int .u32 (E : Int), .int .u32 (B : Int), .int .u64 (S : Int)] 39) := ⟨_, rfl⟩
  have HT0 : Hid (But (fun _ => False) w W0) := by rw [hW0]; exact (But.refl _ w).alloc _
  have hE0 : Blk W0 g 39 [.int .u32 (E : Int), .int .u32 (B : Int), .int .u64 (S : Int)] := by rw [hW0]; exact Blk.new hg.symm
  have HE0 := Hid.mk' hE0
  have HG := Hid.mk' hg
  have HW0 := Hid.mk' hW0
  have c1 : W0.cell? ⟨g, 0, none⟩ = some (.int .u32 (E : Int)) := by rw [hE0.cell]; rfl
  have HP1 := Hid.mk' (rput_ok (Bs.nil W0) (by decide) E 4 (by decide) (by decide) (by omega) (by omega))
  have hE : (E : Int) < 4294967296 := by omega
  have hB : (B : Int) < 4294967296 := by omega
  have H2 := Hid.mk' h2
  have H3 := Hid.mk' h3
  clear hE0 hg hW0 h1 h2 h3
  show Calls _ _ #[.agg #[_, _, _]] _ _
  go_enter Try.func22, Try.ntmps22
  go_upto_region 1 with fail
  rw [← HW0.out, ← HG.out]
  go_wp2_with fail
  refine Calls.mono HP1.out ?_
  rintro e w1 ⟨v1, rfl, ho1, hb1⟩
  rw [List.nil_append] at ho1
  have HT1 := Hid.mk' hb1
  have HP2 := Hid.mk' (rput_ok ho1 (by rw [be_len]; decide) B 4 (by decide) (by decide) (by have := H2.out; omega) (by have := H2.out; omega))
  have hE1 := HE0.out.but HT1.out (fun h => h)
  have c2 : w1.cell? ⟨g, 1, none⟩ = some (.int .u32 (B : Int)) := by rw [hE1.cell]; rfl
  obtain ⟨ao1, n1, cp1, rfl⟩ := ho1.sl
  clear ho1 hb1 HP1 hE1
  go_wp2_with fail
  refine Calls.mono HP2.out ?_
  rintro e w2 ⟨v2, rfl, ho2, hb2⟩
  have HT2 := Hid.mk' hb2
  have HP3 := Hid.mk' (rput_ok ho2 (by rw [List.length_append, be_len, be_len]; decide) S 8 (by decide) (by decide) (by have := H3.out; omega) H3.out)
  have hE2 := (HE0.out.but HT1.out (fun h => h)).but HT2.out (fun h => h)
  have c3 : w2.cell? ⟨g, 2, none⟩ = some (.int .u64 (S : Int)) := by rw [hE2.cell]; rfl
  obtain ⟨ao2, n2, cp2, rfl⟩ := ho2.sl
  clear ho2 hb2 HP2 hE2
  go_wp2_with fail
  refine Calls.mono HP3.out ?_
  rintro e w3 ⟨v3, rfl, ho3, hb3⟩
  have HT3 := Hid.mk' hb3
  have e : be E 4 ++ be B 4 ++ be S 8 = ebs ⟨E, B, S⟩ := by simp [ebs, nbs]
  rw [e] at ho3
  have HO3 := Hid.mk' ho3
  obtain ⟨ao3, n3, cp3, rfl⟩ := ho3.sl
  clear ho3 hb3 HP3 e
  go_wp2
  go_ret
  exact ⟨_, rfl, HO3.out, ((HT0.out.trans HT1.out).trans HT2.out).trans HT3.out⟩
set_option maxRecDepth 100000 in
theorem rfault_any {w : World} {ao : Option Addr} {n cap : Nat} {i : Int} :
    Calls Try.prog 14 #[.slice ao n cap, .int .i64 i] w fun r w' => r = .returned (.int .i64 (rfa n i)) ∧ w' = w := by
  obtain ⟨R, hR⟩ : ∃ R, R = rfa n i := ⟨_, rfl⟩
  rw [← hR]
  have HR := Hid.mk' hR
  clear hR
  by_cases h1 : n < 256
  · obtain rfl : R = 2 := by rw [HR.out, rfa, if_pos h1]
    go_enter Try.func14, Try.ntmps14
    go_wp2
    go_ret
    exact ⟨rfl, rfl⟩
  · by_cases h2 : 256 < n
    · obtain rfl : R = 4 := by rw [HR.out, rfa, if_neg h1, if_pos h2]
      go_enter Try.func14, Try.ntmps14
      go_wp2
      go_ret
      exact ⟨rfl, rfl⟩
    · by_cases h3 : i < 0
      · obtain rfl : R = 1 := by rw [HR.out, rfa, if_neg h1, if_neg h2, if_neg (by omega)]
        go_enter Try.func14, Try.ntmps14
        go_wp2
        go_ret
        exact ⟨rfl, rfl⟩
      · by_cases h4 : 15 < i
        · obtain rfl : R = 1 := by rw [HR.out, rfa, if_neg h1, if_neg h2, if_neg (by omega)]
          go_enter Try.func14, Try.ntmps14
          go_wp2
          go_ret
          exact ⟨rfl, rfl⟩
        · obtain rfl : R = 0 := by rw [HR.out, rfa, if_neg h1, if_neg h2, if_pos (by omega)]
          go_enter Try.func14, Try.ntmps14
          go_wp2
          go_ret
          exact ⟨rfl, rfl⟩
end Go.Proofs.Ytffiphdbjohilaa
