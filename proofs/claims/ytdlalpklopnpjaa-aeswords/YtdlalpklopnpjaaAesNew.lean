/- The program's New; and what a cipher that is none tells. -/
import Derived.Test.YtdlalpklopnpjaaAesWords
import Derived.Test.YtdlalpklopnpjaaAesDec
namespace Go.Proofs.Ytdlalpklopnpjaa
open Go.RowKit

set_option maxRecDepth 100000 in
set_option maxHeartbeats 1000000 in
theorem anew_any {w : World} {v : Value} {key : List B8} (hv : Bs w v (nts key)) (hk : key.length = 16 ∨ key.length = 32) :
    Calls Try.prog 10 #[v] w fun e w' => ∃ gc gb gw, e = .returned (.tuple #[.pointer (some ⟨gc, 0, none⟩), .int .i64 0]) ∧ Cph w' gc gb gw (words key) ∧ (w.heap.size ≤ gc ∧ w.heap.size ≤ gb ∧ w.heap.size ≤ gw) ∧ But (fun _ => False) w w' := by
  have HV := Hid.mk' hv
  have HK := Hid.mk' hk
  obtain ⟨ao, cap, rfl, -, -⟩ := hv.gen
  rw [nts_len]
  obtain ⟨n, hn⟩ : ∃ n, n = key.length := ⟨_, rfl⟩
  rw [← hn] at hk ⊢
  have HN := Hid.mk' hn
  rw [nts_len, ← hn] at HV
  clear hv hn
  have HWL : Hid ((words key).length = 44 ∨ (words key).length = 60) := by
    show _ ∨ _
    rw [words_len]
    have := HK.out
    omega
  have HNW := Hid.mk' (new_any w)
  have fin : Hid (∀ w1, Bxs w1 w.heap.size → But (fun _ => False) w w1 → Calls Try.prog 20 #[.slice ao n cap, .pointer (some ⟨w.heap.size, 0, none⟩)] w1 fun e w' => ∃ gw T, e = .returned (.slice (some ⟨gw, 0, none⟩) (words key).length (words key).length) ∧ Blk w' gw T ((words key).map wv) ∧ w1.heap.size ≤ gw ∧ But (fun _ => False) w1 w') := by
    intro w1 hb hbut
    exact wordsOf_any (HV.out.but hbut (fun _ _ _ h => h)) hb HK.out
  have rest : ∀ w2 gw T, Blk w2 gw T ((words key).map wv) → Bxs w2 w.heap.size → Cph (w2.alloc (.cells #[.pointer (some ⟨w.heap.size, 0, none⟩), .slice (some ⟨gw, 0, none⟩) (words key).length (words key).length] 50)) w2.heap.size w.heap.size gw (words key) := by
    intro w2 gw T hb hx
    have ha : But (fun _ => False) w2 (w2.alloc (.cells #[.pointer (some ⟨w.heap.size, 0, none⟩), .slice (some ⟨gw, 0, none⟩) (words key).length (words key).length] 50)) := (But.refl _ w2).alloc _
    exact ⟨Blk.new (L := [_, _]) rfl, hx.but ha (fun h => h), ⟨T, hb.but ha (fun h => h)⟩, HWL.out⟩
  have REST := Hid.mk' rest
  clear rest
  obtain ⟨N, hN⟩ : ∃ N, N = (words key).length := ⟨_, rfl⟩
  rw [← hN] at fin REST
  clear hN
  rcases hk with hk | hk
  · subst hk
    go_enter Try.func10, Try.ntmps10
    go_wp2_with fail
    refine Calls.mono HNW.out ?_
    rintro e w1 ⟨rfl, hx1, hb1⟩
    have FIN := Hid.mk' (fin.out w1 hx1 hb1)
    have HX1 := Hid.mk' hx1
    have HB1 := Hid.mk' hb1
    clear hx1 hb1 fin HNW
    go_wp2_with fail
    refine Calls.mono FIN.out ?_
    rintro e w2 ⟨gw, T, rfl, hb2, hge, hbut2⟩
    have HB2 := Hid.mk' hb2
    have HT2 := Hid.mk' hbut2
    have HGE := Hid.mk' hge
    clear hb2 hbut2 hge FIN
    go_wp2
    go_ret2
    have hs1 := HB1.out.size
    have hs2 := HT2.out.size
    exact ⟨_, _, gw, rfl, REST.out w2 gw T HB2.out (HX1.out.but HT2.out (fun h => h)), ⟨by omega, Nat.le_refl _, by have := HGE.out; omega⟩, (HB1.out.trans HT2.out).trans ((But.refl _ w2).alloc _)⟩
  · subst hk
    go_enter Try.func10, Try.ntmps10
    go_wp2_with fail
    refine Calls.mono HNW.out ?_
    rintro e w1 ⟨rfl, hx1, hb1⟩
    have FIN := Hid.mk' (fin.out w1 hx1 hb1)
    have HX1 := Hid.mk' hx1
    have HB1 := Hid.mk' hb1
    clear hx1 hb1 fin HNW
    go_wp2_with fail
    refine Calls.mono FIN.out ?_
    rintro e w2 ⟨gw, T, rfl, hb2, hge, hbut2⟩
    have HB2 := Hid.mk' hb2
    have HT2 := Hid.mk' hbut2
    have HGE := Hid.mk' hge
    clear hb2 hbut2 hge FIN
    go_wp2
    go_ret2
    have hs1 := HB1.out.size
    have hs2 := HT2.out.size
    exact ⟨_, _, gw, rfl, REST.out w2 gw T HB2.out (HX1.out.but HT2.out (fun h => h)), ⟨by omega, Nat.le_refl _, by have := HGE.out; omega⟩, (HB1.out.trans HT2.out).trans ((But.refl _ w2).alloc _)⟩
theorem anew_none {w : World} {v : Value} {xs : List Nat} (hv : Bs w v xs) (h16 : xs.length ≠ 16) (h32 : xs.length ≠ 32) :
    Calls Try.prog 10 #[v] w fun e w' => e = .returned (.tuple #[.pointer none, .int .i64 1]) ∧ w' = w := by
  obtain ⟨ao, cap, rfl, -, -⟩ := hv.gen
  clear hv
  generalize xs.length = n at *
  have a1 : ((n : Int) == 16) = false := by simp; omega
  have a2 : ((n : Int) == 32) = false := by simp; omega
  have b1 : ((n : Int) != 16) = true := by simp; omega
  have b2 : ((n : Int) != 32) = true := by simp; omega
  clear h16 h32 a1 a2
  go_enter Try.func10, Try.ntmps10
  go_wp2
  go_ret2
  exact ⟨rfl, rfl⟩
theorem encrypt_nil {w : World} (C : Array Value) :
    Calls Try.prog 14 #[.pointer none, .agg C] w fun e w' => e = .returned (.agg (u8s (List.replicate 16 0)).toArray) ∧ But (fun _ => False) w w' := by
  have HM := Hid.mk' made_nil
  go_enter Try.func14, Try.ntmps14
  go_wp2_with fail
  refine Calls.mono (HM.out _) ?_
  rintro e w1 ⟨rfl, hw⟩
  have hw' := hw.symm
  subst hw'
  go_wp2
  have hb := Blk.new (w := w.alloc (.cells C 23)) (g := w.heap.size + 1) (T := 23) (L := u8s (List.replicate 16 0)) (by simp)
  exact bodyPost_ret (results_cell_row rfl _ _ (w.heap.size + 1) _ _ _ _ rfl hb Try.underlying23 rfl (by rw [i23]; rfl)) rfl ⟨rfl, ((But.refl _ w).alloc _).alloc _⟩
theorem decrypt_nil {w : World} (C : Array Value) :
    Calls Try.prog 16 #[.pointer none, .agg C] w fun e w' => e = .returned (.agg (u8s (List.replicate 16 0)).toArray) ∧ But (fun _ => False) w w' := by
  have HM := Hid.mk' made_nil
  go_enter Try.func16, Try.ntmps16
  go_wp2_with fail
  refine Calls.mono (HM.out _) ?_
  rintro e w1 ⟨rfl, hw⟩
  have hw' := hw.symm
  subst hw'
  go_wp2
  have hb := Blk.new (w := w.alloc (.cells C 23)) (g := w.heap.size + 1) (T := 23) (L := u8s (List.replicate 16 0)) (by simp)
  exact bodyPost_ret (results_cell_row rfl _ _ (w.heap.size + 1) _ _ _ _ rfl hb Try.underlying23 rfl (by rw [i23]; rfl)) rfl ⟨rfl, ((But.refl _ w).alloc _).alloc _⟩
theorem ptr_eql_c (w : World) (p : Option Addr) : Sem.run Try.prog (binOp .eql 25 (.pointer p) (.pointer none)) w = .ok (.bool p.isNone) w := by
  cases p <;> rfl
theorem words_nil (w : World) :
    Calls Try.prog 18 #[.pointer none] w fun e w' => e = .returned (.slice none 0 0) ∧ w' = w := by
  have hp := ptr_eql_c w none
  go_enter Try.func18, Try.ntmps18
  go_wp2
  go_ret
  exact ⟨rfl, rfl⟩
theorem nil_eql32 (w : World) (ao : Option Addr) (n cap : Nat) : Sem.run Try.prog (binOp .eql 39 (.slice ao n cap) (.slice none 0 0)) w = .ok (.bool ao.isNone) w := by
  cases ao <;> rfl
theorem u32info : (Try.prog.info? 42).map (fun i => (i.zero, i.size, i.bytes)) = some (some (.int .u32 0), 1, 4) := by kernel_rfl
theorem wv_one (L : List (List B8)) : ∀ u ∈ L.map wv, u.oneCell' = true := by
  intro u hu
  obtain ⟨x, _, rfl⟩ := List.mem_map.1 hu
  rfl
set_option maxHeartbeats 1000000 in
theorem clone32_any {w : World} {gw : Nat} {T : TypeId} {W : List (List B8)} (hb : Blk w gw T (W.map wv)) (hl : W.length ≤ 100) (hl0 : 0 < W.length) :
    Calls Try.prog 37 #[.slice (some ⟨gw, 0, none⟩) W.length W.length] w fun e w' => ∃ g cap cur, e = .returned (.slice (some ⟨g, 0, none⟩) W.length cap) ∧ Blk w' g 42 cur ∧ cur.take W.length = W.map wv ∧ w.heap.size ≤ g ∧ But (fun _ => False) w w' := by
  obtain ⟨i0, hi, hz0, hz1, hz2⟩ := info_parts u32info
  have HB := Hid.mk' hb
  obtain ⟨n, hn⟩ : ∃ n, n = W.length := ⟨_, rfl⟩
  have HN := Hid.mk' hn
  have hlit : (w.alloc (.cells #[] 42)).ownsRow w.heap.size 42 1 (.slice (some ⟨w.heap.size, 0, none⟩) 0 0) 0 [] := by
    have := World.ownsRow_lit (base := w.heap.size) (size := 1) (e := 42) w #[] 0 (Nat.le_refl _) (by decide) rfl
    simpa using this
  have hb0 : Below w.heap.size w (w.alloc (.cells #[] 42)) := (Below.refl _ _).alloc (Nat.le_refl _) _
  have HC : Hid (∀ j v, (W.map wv)[j]? = some v → (w.alloc (.cells #[] 42)).cell? ((⟨gw, 0, none⟩ : Addr).add j) = some v) := by
    intro j v hv
    have e : (⟨gw, 0, none⟩ : Addr).add j = ⟨gw, j, none⟩ := by simp [Addr.add]; exact fun h => h.symm
    rw [e, ((HB.out.but ((But.refl (fun _ => False) w).alloc _) (fun h => h))).cell]
    exact hv
  rw [← hn] at hl hl0 ⊢
  clear hn hb
  have hn0 := nil_eql32 w (some ⟨gw, 0, none⟩) n n
  go_enter Try.func37, Try.ntmps37
  go_wp2_with (at_builtin; refine wpList_append_own _ rfl _ _ 39 rfl w.heap.size 42 i0 (.int .u32 0) 1 4 Try.underlying39 hi hz0 hz1 hz2 rfl (by decide) _ _ _ rfl hlit ⟨gw, 0, none⟩ n n (W.map wv) rfl (by rw [List.length_map]; have := HN.out; omega) HC.out (wv_one W) (by unfold maxLen; omega) (by omega) (by simp) ?_; intro v' w2 hown' hgrow' hnil')
  go_ret
  obtain ⟨-, h | ⟨g, cap, cur, rfl, hge, hbl, -, -, -, htk⟩⟩ := hown'
  · omega
  rw [Nat.zero_add] at htk ⊢
  refine ⟨g, cap, cur.toList, rfl, by unfold Blk; simpa using hbl, by simpa using htk, hge, ?_⟩
  exact But.of (hb0.grown hgrow' (by simp) (fun k hk => by have hk' : some w.heap.size = some k := hk; cases hk'; exact Nat.le_refl _))
theorem words_any {w : World} {gc gb gw : Nat} {W : List (List B8)} (h : Cph w gc gb gw W) :
    Calls Try.prog 18 #[.pointer (some ⟨gc, 0, none⟩)] w fun e w' => ∃ g cap cur, e = .returned (.slice (some ⟨g, 0, none⟩) W.length cap) ∧ Blk w' g 42 cur ∧ cur.take W.length = W.map wv ∧ w.heap.size ≤ g ∧ But (fun _ => False) w w' := by
  have c1 : w.cell? ⟨gc, 1, none⟩ = some (.slice (some ⟨gw, 0, none⟩) W.length W.length) := by rw [h.blk.cell]; rfl
  have hp := ptr_eql_c w (some ⟨gc, 0, none⟩)
  obtain ⟨T, hT⟩ := h.wds
  have HC := Hid.mk' (clone32_any hT (by have := h.len; omega) (by have := h.len; omega))
  clear hT h
  generalize W.length = n at *
  go_enter Try.func18, Try.ntmps18
  go_wp2_with fail
  refine Calls.mono HC.out ?_
  rintro e w1 ⟨g, cap, cur, rfl, h1, h2, h3, h4⟩
  have H := Hid.mk' (And.intro h1 (And.intro h2 (And.intro h3 h4)))
  clear h1 h2 h3 h4 HC
  go_wp2
  go_ret
  exact ⟨g, cap, cur, rfl, H.out⟩
end Go.Proofs.Ytdlalpklopnpjaa
