/- count: refused, refusedAt, read. -/
import Derived.Test.YtffiphdbjohilaaCtPack
namespace Go.Proofs.Ytffiphdbjohilaa
open Go.ChangeShapes Go.WideShapes Go.ChangeAt Go.RowKit Go.Deep

/-- Why some bytes are no counter block. -/
def rf (n : Nat) : Int := if n < 256 then 2 else if 256 < n then 4 else 0
/-- Why some bytes have no entry i. -/
def rfa (n : Nat) (i : Int) : Int := if n < 256 then 2 else if 256 < n then 4 else if 0 ≤ i ∧ i < 16 then 0 else 1
set_option maxRecDepth 100000 in
theorem refused_any {w : World} {ao : Option Addr} {n cap : Nat} :
    Calls Try.prog 23 #[.slice ao n cap] w fun r w' => r = .returned (.int .i64 (rf n)) ∧ w' = w := by
  obtain ⟨R, hR⟩ : ∃ R, R = rf n := ⟨_, rfl⟩
  rw [← hR]
  have HR := Hid.mk' hR
  clear hR
  by_cases h1 : n < 256
  · obtain rfl : R = 2 := by rw [HR.out, rf, if_pos h1]
    go_enter Try.func23, Try.ntmps23
    go_wp2
    go_ret
    exact ⟨rfl, rfl⟩
  · by_cases h2 : 256 < n
    · obtain rfl : R = 4 := by rw [HR.out, rf, if_neg h1, if_pos h2]
      go_enter Try.func23, Try.ntmps23
      go_wp2
      go_ret
      exact ⟨rfl, rfl⟩
    · obtain rfl : R = 0 := by rw [HR.out, rf, if_neg h1, if_neg h2]
      go_enter Try.func23, Try.ntmps23
      go_wp2
      go_ret
      exact ⟨rfl, rfl⟩
set_option maxRecDepth 100000 in
theorem refusedAt_any {w : World} {ao : Option Addr} {n cap : Nat} {i : Int} :
    Calls Try.prog 27 #[.slice ao n cap, .int .i64 i] w fun r w' => r = .returned (.int .i64 (rfa n i)) ∧ w' = w := by
  have HC := Hid.mk' (refused_any (w := w) (ao := ao) (n := n) (cap := cap))
  obtain ⟨R, hR⟩ : ∃ R, R = rf n := ⟨_, rfl⟩
  rw [← hR] at HC
  by_cases h0 : R = 0
  · have hn : n = 256 := by
      rw [hR, rf] at h0
      by_cases h1 : n < 256
      · rw [if_pos h1] at h0; omega
      · rw [if_neg h1] at h0
        by_cases h2 : 256 < n
        · rw [if_pos h2] at h0; omega
        · omega
    subst hn
    subst h0
    clear hR
    by_cases h1 : i < 0
    · have e : rfa 256 i = 1 := by simp [rfa]; omega
      rw [e]
      clear e
      go_enter Try.func27, Try.ntmps27
      go_wp2_with fail
      refine Calls.mono HC.out ?_
      rintro e w1 ⟨rfl, hw1⟩
      have hw2 := hw1.symm
      subst hw2
      go_wp2
      go_ret
      exact ⟨rfl, rfl⟩
    · by_cases h2 : 16 ≤ i
      · have e : rfa 256 i = 1 := by simp [rfa]; omega
        rw [e]
        clear e
        go_enter Try.func27, Try.ntmps27
        go_wp2_with fail
        refine Calls.mono HC.out ?_
        rintro e w1 ⟨rfl, hw1⟩
        have hw2 := hw1.symm
        subst hw2
        go_wp2
        go_ret
        exact ⟨rfl, rfl⟩
      · have e : rfa 256 i = 0 := by simp [rfa]; omega
        rw [e]
        clear e
        go_enter Try.func27, Try.ntmps27
        go_wp2_with fail
        refine Calls.mono HC.out ?_
        rintro e w1 ⟨rfl, hw1⟩
        have hw2 := hw1.symm
        subst hw2
        go_wp2
        go_ret
        exact ⟨rfl, rfl⟩
  · have e : rfa n i = R := by
      rw [hR] at h0 ⊢
      unfold rf at h0 ⊢
      unfold rfa
      by_cases h1 : n < 256
      · rw [if_pos h1, if_pos h1]
      · rw [if_neg h1] at h0 ⊢
        by_cases h2 : 256 < n
        · rw [if_pos h2, if_neg h1, if_pos h2]
        · rw [if_neg h2] at h0; exact absurd rfl h0
    rw [e]
    clear e hR
    have h0' : (R == 0) = false := by simpa using h0
    have h0'' : (R != 0) = true := by simpa using h0
    clear h0
    go_enter Try.func27, Try.ntmps27
    go_wp2_with fail
    refine Calls.mono HC.out ?_
    rintro e w1 ⟨rfl, hw1⟩
    have hw2 := hw1.symm
    subst hw2
    go_wp2
    go_ret
    exact ⟨rfl, rfl⟩

theorem Rd.bytes {w : World} {r : Nat} {og : Option Nat} {zs : List Nat} {f : Int} (h : Rd w r og zs f) : ∀ z ∈ zs, z < 256 := by
  obtain ⟨⟨_, _, hb, _⟩, _, _⟩ := h
  exact hb.1
set_option maxRecDepth 100000 in
set_option maxHeartbeats 2000000 in
theorem read_any {w : World} {r : Nat} {og : Option Nat} {zs : List Nat} (h : Rd w r og zs 0) (hl : 16 ≤ zs.length) :
    Calls Try.prog 25 #[.pointer (some ⟨r, 0, none⟩)] w fun e w' => e = .returned (evalE (en zs)) ∧ Rd w' r og (zs.drop 16) 0 ∧ But (· = r) w w' := by
  have hzs := h.bytes
  have hrl := h.lt
  have hze := zeroE
  have HOG := Hid.mk' h.og
  have h1 := val_lt zs hzs 4 (by omega)
  have h2 := val_lt (zs.drop 4) (fun z hz => hzs z (List.mem_of_mem_drop hz)) 4 (by rw [List.length_drop]; omega)
  have hT0 : But (fun _ => False) w (w.alloc (.cells #[.int .u32 0, .int .u32 0, .int .u64 0] 39)) := (But.refl _ _).alloc _
  have HN1 := Hid.mk' (num_ok (h.but hT0 (fun h => h) (fun _ _ h => h)) 4 (by decide) (by decide) (by omega))
  have HQ0 : Hid (Blk (w.alloc (.cells #[.int .u32 0, .int .u32 0, .int .u64 0] 39)) w.heap.size 39 ([] ++ [.int .u32 0, .int .u32 0, .int .u64 0] ++ [])) := Blk.new rfl
  obtain ⟨W0, hW0⟩ : ∃ W0, W0 = w.alloc (.cells #[.int .u32 0, .int .u32 0, .int .u64 0] 39) := ⟨_, rfl⟩
  rw [← hW0] at HN1 HQ0 hT0
  have HT0 := Hid.mk' hT0
  have HW0 := Hid.mk' hW0
  obtain ⟨E, hE⟩ : ∃ E, E = val (zs.take 4) := ⟨_, rfl⟩
  obtain ⟨B, hB⟩ : ∃ B, B = val ((zs.drop 4).take 4) := ⟨_, rfl⟩
  obtain ⟨S, hS⟩ : ∃ S, S = val ((zs.drop 8).take 8) := ⟨_, rfl⟩
  have HEN : Hid (evalE (en zs) = .agg #[.int .u32 (E : Int), .int .u32 (B : Int), .int .u64 (S : Int)]) := by rw [hE, hB, hS]; exact rfl
  rw [← hE] at HN1 h1
  rw [← hB] at h2
  have hE2 : (E : Int) < 4294967296 := by omega
  have hB2 : (B : Int) < 4294967296 := by omega
  have HB := Hid.mk' hB
  have HS := Hid.mk' hS
  have HL := Hid.mk' hl
  rw [HEN.out]
  clear hE hB hS h1 h2 hl hzs h hT0 hW0
  go_enter Try.func25, Try.ntmps25
  go_upto_region 1 with fail
  rw [← HW0.out]
  go_wp2_with fail
  refine Calls.mono HN1.out ?_
  rintro e w1 ⟨rfl, hr1, hb1⟩
  have HN2 := Hid.mk' (num_ok hr1 4 (by decide) (by decide) (by have := HL.out; rw [List.length_drop]; omega))
  rw [← HB.out, List.drop_drop] at HN2
  have HT1 := Hid.mk' hb1
  clear hr1 hb1 HN1
  go_wp2_with fail
  refine Calls.mono HN2.out ?_
  rintro e w2 ⟨rfl, hr2, hb2⟩
  have HN3 := Hid.mk' (num_ok hr2 8 (by decide) (by decide) (by have := HL.out; rw [List.length_drop]; omega))
  rw [← HS.out, List.drop_drop] at HN3
  have HT2 := Hid.mk' hb2
  clear hr2 hb2 HN2
  go_wp2_with fail
  refine Calls.mono HN3.out ?_
  rintro e w3 ⟨rfl, hr3, hb3⟩
  have HR3 := Hid.mk' hr3
  have HT3 := Hid.mk' hb3
  have hwr : ¬ (w.heap.size = r) := by omega
  have HQ3 := Hid.mk' (((HQ0.out.but HT1.out hwr).but HT2.out hwr).but HT3.out hwr)
  clear hr3 hb3 HN3
  go_wp2_with (refine wpList_store_at rfl _ _ _ rfl w.heap.size 0 [.int .u32 (E : Int), .int .u32 (B : Int), .int .u64 (S : Int)] rfl (by exact rfl) 39 [] [.int .u32 0, .int .u32 0, .int .u64 0] [] HQ3.out rfl rfl (by rw [iEn]; rfl) (by simp [Value.oneCell']) ?_; intro w4 hb4 hbut4)
  have hb5 : Blk w4 w.heap.size 39 [.int .u32 (E : Int), .int .u32 (B : Int), .int .u64 (S : Int)] := by simpa using hb4
  refine bodyPost_ret (results_cell_row rfl _ _ w.heap.size _ _ _ _ rfl hb5 Try.underlying39 rfl (by rw [iEn]; rfl)) rfl ⟨rfl, ?_, ?_⟩
  · refine HR3.out.but hbut4 (by omega) (fun g hg e => by have := (HOG.out g hg).2; omega)
  · exact (((HT0.out.mono (fun _ _ h => h.elim)).trans HT1.out).trans HT2.out |>.trans HT3.out).then hbut4 (fun j hj e => by omega)
end Go.Proofs.Ytffiphdbjohilaa
