/- Pick and Next. -/
import Derived.Test.YtidblaepklgkcaaFaNext
namespace Go.Proofs.Ytidblaepklgkcaa
open Go.RowKit

/-- Whose turn it is, of these, from a on. -/
def nx1 (T : List Sh) (l : List Nat) (a : Nat) : Nat := l.foldl (fun b j => if ls (pat T j) (pat T b) then j else b) a
theorem nx1_mem (T : List Sh) : ∀ (l : List Nat) (a : Nat), nx1 T l a = a ∨ nx1 T l a ∈ l
  | [], _ => .inl rfl
  | j :: l, a => by
    have h : nx1 T (j :: l) a = nx1 T l (if ls (pat T j) (pat T a) then j else a) := rfl
    rw [h]
    rcases nx1_mem T l (if ls (pat T j) (pat T a) then j else a) with e | e
    · rw [e]
      split
      · exact .inr List.mem_cons_self
      · exact .inl rfl
    · exact .inr (List.mem_cons_of_mem _ e)
theorem nx1_snoc (T : List Sh) (l : List Nat) (a j : Nat) : nx1 T (l ++ [j]) a = if ls (pat T j) (pat T (nx1 T l a)) then j else nx1 T l a := by unfold nx1; rw [List.foldl_append]; rfl
def nxT (T : List Sh) (k : Nat) : List Sh := match T[k]? with
  | some t => T.set k ⟨t.w, fad t.p (fdv t.w), t.a⟩
  | none => T
section
variable {w w' : World} {g gt : Nat} {T : List Sh} {i : Int} {k : Nat} {t : Sh}
set_option maxRecDepth 100000 in
set_option maxHeartbeats 1000000 in
theorem next_none (h : Fr w g gt T) (ha : awN T = []) : Calls Try.prog 36 #[ptr g] w fun e w' => e = .returned (.tuple #[.int .i64 0, .bool false]) ∧ Grow w w' := by
  have HAW := Hid.mk' (awake_list h)
  rw [ha] at HAW
  clear h ha
  go_enter Try.func36, Try.ntmps36
  go_wp2_with fail
  refine Calls.mono HAW.out ?_
  rintro e w1 ⟨v, rfl, hrow, -, hg1⟩
  obtain ⟨a, c, e1⟩ := own_sl hrow
  have e2 : v = .slice a 0 c := e1
  subst e2
  have HG1 := Hid.mk' hg1
  clear hrow hg1 e1
  go_wp2
  go_ret2
  exact ⟨rfl, HG1.out⟩
set_option maxRecDepth 100000 in
set_option maxHeartbeats 2000000 in
theorem next_some (h : Fr w g gt T) {a : Nat} {l : List Nat} (ha : awN T = a :: l) : Calls Try.prog 36 #[ptr g] w fun e w' => e = .returned (.tuple #[.int .i64 (nx1 T l a : Nat), .bool true]) ∧ FrTo w g gt (nxT T (nx1 T l a)) w' := by
  have HAW := Hid.mk' (awake_list h)
  rw [ha] at HAW
  have HIN : Hid (∀ j ∈ a :: l, j < T.length) := fun j hj => (awU_lt (n := T.length) (by rw [← ha] at hj; exact hj)).1
  have hll : (a :: l).length ≤ 8 := by rw [← ha]; exact Nat.le_trans (awU_len _ _) h.ok.n8
  have HLL := Hid.mk' hll
  have hI : ∀ x ∈ ints (a :: l), -9223372036854775808 ≤ x ∧ x ≤ 9223372036854775807 := by rw [← ha]; exact ints_i64 h.ok.n8
  have HI := Hid.mk' hI
  have HH := Hid.mk' h
  have hn8 : (T.length : Int) ≤ 8 := by have := h.ok.n8; omega
  have HN8 := Hid.mk' hn8
  clear h ha hll hI hn8
  go_enter Try.func36, Try.ntmps36
  go_wp2_with fail
  refine Calls.mono HAW.out ?_
  rintro e w1 ⟨v, rfl, hrow, -, hg1⟩
  have hlen1 : (ints (a :: l)).length = l.length + 1 := by rw [ints_len]; rfl
  obtain ⟨lo, hi', -, hhi1, -, hnh⟩ := nums_cut hrow HI.out (by rw [hlen1]; have := HLL.out; simp at this; omega) (a := 1) (by rw [hlen1]; omega)
  obtain ⟨b, cap, e1, hcell⟩ := row_cell (e := 3) (L := numv (ints (a :: l))) (by rw [show (numv (ints (a :: l))).length = (ints (a :: l)).length from List.length_map ..]; exact hrow) (by rw [show (numv (ints (a :: l))).length = (ints (a :: l)).length from List.length_map .., hlen1]; omega)
  rw [show (numv (ints (a :: l))).length = l.length + 1 by rw [show (numv (ints (a :: l))).length = (ints (a :: l)).length from List.length_map .., hlen1]] at e1
  obtain ⟨m, hm⟩ : ∃ m, m = l.length := ⟨_, rfl⟩
  rw [← hm] at e1
  subst e1
  have hc0 : w1.cell? ⟨b, 0, none⟩ = some (.int .i64 (a : Int)) := hcell 0 _ rfl
  have hdr : (ints (a :: l)).drop 1 = ints l := rfl
  rw [hdr] at hnh
  obtain ⟨ao, cp, e2⟩ := hnh.len
  rw [ints_len, ← hm] at e2
  subst e2
  have HNH := Hid.mk' hnh
  have HHI : Hid (∀ w0 : World, (Instr.sliceAt 34 (.slice (some ⟨b, 0, none⟩) (m + 1) cap) (some (.int .i64 1)) none none).run Try.prog w0 = .ok (.slice ao m cp) w0) := hhi1
  have HG1 := Hid.mk' hg1
  have HM := Hid.mk' hm
  have hmb : (m : Int) ≤ 8 := by have := HLL.out; simp at this; omega
  have hm1 : ((m : Int) + 1 == 0) = false := by rw [beq_eq_false_iff_ne]; omega
  have HF1 := Hid.mk' (HH.out.grow hg1)
  clear hrow hhi1 hnh hlen1 hcell hm hdr hg1 HAW
  go_wp2_with (first
    | (refine wpList_runH rfl (exec_slc rfl rfl rfl rfl (HHI.out _)) ?_)
    | fail)
  go_loopw [5, 20] (fun nv iv wr => ∃ i : Nat, i ≤ m ∧ iv = .int .i64 i ∧ nv = .int .i64 ((nx1 T (l.take i) a : Nat) : Int) ∧ wr = w1) (fun _ iv _ => m - (intOf iv).toNat)
  case atStart => exact ⟨0, Nat.zero_le _, rfl, rfl, rfl⟩
  case round =>
    obtain ⟨i, him, rfl, rfl, hwx⟩ := hrel
    have h2 := hwx.symm
    subst h2
    clear hwx
    obtain ⟨q, hq⟩ : ∃ q, q = nx1 T (l.take i) a := ⟨_, rfl⟩
    have hqn : q < T.length := by
      rw [hq]
      rcases nx1_mem T (l.take i) a with e | e
      · rw [e]; exact HIN.out a List.mem_cons_self
      · exact HIN.out _ (List.mem_cons_of_mem _ (List.mem_of_mem_take e))
    have HQN := Hid.mk' hqn
    have HPQ := Hid.mk' (pass_any (i := (q : Int)) HF1.out)
    rw [pas_pat hqn] at HPQ
    have HQ := Hid.mk' hq
    rw [← hq]
    clear hqn hq
    by_cases hlt : i < m
    · have hlti : (i : Int) < (m : Int) := by omega
      have hil : i < l.length := by have := HM.out; omega
      obtain ⟨j, hj⟩ : ∃ j, l[i]? = some j := ⟨_, List.getElem?_eq_getElem hil⟩
      have hjn : j < T.length := HIN.out j (List.mem_cons_of_mem _ (List.mem_of_getElem? hj))
      obtain ⟨b2, off2, cap2, e3, -, -, hc2⟩ := HNH.out.at (by rw [ints_len]; omega)
      simp only [Value.slice.injEq] at e3
      obtain ⟨rfl, -, rfl⟩ := e3
      have hcj : w1.cell? ⟨b2, off2 + i, none⟩ = some (.int .i64 (j : Int)) := by
        rw [hc2 i (by rw [ints_len]; exact hil)]
        unfold ints
        rw [List.getD_eq_getElem?_getD, List.getElem?_map, hj]
        rfl
      have HPJ := Hid.mk' (pass_any (i := (j : Int)) HF1.out)
      rw [pas_pat hjn] at HPJ
      have HLS := Hid.mk' (less_any (pat T j) (pat T q) w1 (by have := HF1.out.ok.pat j; omega) (by have := HF1.out.ok.pat q; omega))
      have HNX : Hid (nx1 T (l.take (i + 1)) a = if ls (pat T j) (pat T q) then j else q) := Hid.mk' (by
        have h3 := List.getElem?_eq_some_iff.1 hj
        rw [List.take_succ_eq_append_getElem h3.1, h3.2, nx1_snoc, HQ.out])
      have HJ8 : Hid (j < T.length) := Hid.mk' hjn
      generalize pat T j = pj at *
      generalize pat T q = pq at *
      clear hil hj hjn hc2
      cases hls : ls pj pq with
      | true =>
        rw [hls] at HLS
        go_wp2_with fail
        refine Calls.mono HPJ.out ?_
        rintro e w' ⟨rfl, hw⟩
        have h2 := hw.symm
        subst h2
        clear hw
        go_wp2_with fail
        refine Calls.mono HPQ.out ?_
        rintro e w' ⟨rfl, hw⟩
        have h2 := hw.symm
        subst h2
        clear hw
        go_wp2_with fail
        refine Calls.mono HLS.out ?_
        rintro e w' ⟨rfl, hw⟩
        have h2 := hw.symm
        subst h2
        clear hw
        go_wp2
        exact ⟨⟨i + 1, by omega, by go_num, by rw [HNX.out, hls]; rfl, trivial⟩, by simp [intOf]; omega⟩
      | false =>
        rw [hls] at HLS
        go_wp2_with fail
        refine Calls.mono HPJ.out ?_
        rintro e w' ⟨rfl, hw⟩
        have h2 := hw.symm
        subst h2
        clear hw
        go_wp2_with fail
        refine Calls.mono HPQ.out ?_
        rintro e w' ⟨rfl, hw⟩
        have h2 := hw.symm
        subst h2
        clear hw
        go_wp2_with fail
        refine Calls.mono HLS.out ?_
        rintro e w' ⟨rfl, hw⟩
        have h2 := hw.symm
        subst h2
        clear hw
        go_wp2
        exact ⟨⟨i + 1, by omega, by go_num, by rw [HNX.out, hls]; rfl, trivial⟩, by simp [intOf]; omega⟩
    · have hE : l.take i = l := List.take_of_length_le (by have := HM.out; omega)
      have HQ2 : Hid (nx1 T l a = q) := Hid.mk' (by have := HQ.out; rw [hE] at this; exact this.symm)
      obtain ⟨⟨tw, tp, ta⟩, ht⟩ : ∃ t, T[q]? = some t := ⟨_, List.getElem?_eq_getElem HQN.out⟩
      have HT := Hid.mk' ht
      have htok := HF1.out.ok.ok _ (List.mem_of_getElem? ht)
      have HTOK := Hid.mk' htok
      obtain ⟨d, hd⟩ : ∃ d, d = fdv tw := ⟨_, rfl⟩
      have hdl := (div_one htok.1.1 htok.1.2).2.1
      dsimp only at hdl
      rw [← hd] at hdl
      obtain ⟨p, hp⟩ : ∃ p, p = fad tp d := ⟨_, rfl⟩
      have HQUO : Hid (∀ wz : World, (binOp .quo 31 (.float .f64 4607182418800017408) (.float .f64 tw)).run Try.prog wz = .ok (.float .f64 d) wz) := fun wz => by rw [hd]; exact quo_runF _ htok.1.1 htok.1.2 wz
      have HADD : Hid (∀ wz : World, (binOp .add 31 (.float .f64 tp) (.float .f64 d)).run Try.prog wz = .ok (.float .f64 p) wz) := fun wz => by rw [hp]; exact add_runF _ htok.2 (by omega) wz
      have HPL : Hid (p ≤ 9218868437227405312) := Hid.mk' (by rw [hp]; exact fad_le _ _)
      have HRES : Hid (nxT T (nx1 T l a) = T.set q ⟨tw, p, ta⟩) := Hid.mk' (by unfold nxT; rw [HQ2.out, HT.out, hp, hd])
      obtain ⟨n, hn⟩ : ∃ n, n = T.length := ⟨_, rfl⟩
      have c0 : w1.cell? ⟨g, 0, none⟩ = some (.slice (some ⟨gt, 0, none⟩) n n) := by rw [hn]; exact HF1.out.b.row.cell 0
      have hqn : (q : Int) < (n : Int) := by have := HQN.out; omega
      have hn8 : (n : Int) ≤ 8 := by have := HN8.out; omega
      have HLN : Hid (q * 3 + 1 < (T.flatMap shc).length) := Hid.mk' (by rw [flat_len' _ (fun x _ => shc_len x)]; have := HQN.out; omega)
      clear hE ht htok hd hdl hp hn
      go_upto_region 12 with fail
      refine region_chain [([0, 1, 2, 3, 4, 5, 6, 7, 8, 9, 10, 11], 12)] [] (Grow w1) (Grow w1) (by kernel_rfl) (by kernel_rfl) (fun _ _ h k => h.trans k) (fun _ h => h) ((But.refl _ w1).drew) ?_
      intro ι hne X hX
      have d1 : ∀ z, (X z).cell? ⟨gt, q * 3 + 1, none⟩ = some (.float .f64 tp) := fun z => (HF1.out.grow (hX z)).b.cell HT.out rfl
      have d0 : ∀ z, (X z).cell? ⟨gt, q * 3, none⟩ = some (.float .f64 tw) := fun z => (HF1.out.grow (hX z)).b.cell HT.out (c := 0) rfl
      iterate 8 (refine still_step rfl (fun K hK => ?_); go_simp; refine hK _ ?_; clear hK K)
      refine still_val rfl (.float .f64 d) rfl (fun z => exec_quoF rfl rfl rfl (HQUO.out _)) ?_
      intro K hK; go_simp; refine hK _ ?_; clear hK K
      refine still_val rfl (.float .f64 p) rfl (fun z => exec_addF rfl rfl rfl (HADD.out _)) ?_
      intro K hK; go_simp; refine hK _ ?_; clear hK K
      iterate 2 (refine still_step rfl (fun K hK => ?_); go_simp; refine hK _ ?_; clear hK K)
      refine still_nil ?_
      clear hX hne d0 d1 X ι
      refine turn_run rfl rfl (fun _ w2 => FrTo w g gt (T.set q ⟨tw, p, ta⟩) w2) (fun _ _ => True) (fun _ _ _ h k => ⟨h.fr.grow k, h.but.trans (k.mono (fun _ _ h => h.elim))⟩) (fun _ _ _ => trivial) (.inl (by kernel_rfl)) ?_ ?_
      · rintro w5 h1
        have hf := HF1.out.grow h1
        exact turn_store iFl rfl rfl rfl rfl hf.b.tsk HLN.out ⟨⟨hf.b.set HT.out (c := 1) (by decide) rfl, hf.ok.set _ ⟨HTOK.out.1, HPL.out⟩⟩, ((HG1.out.trans h1).mono (fun _ _ h => h.elim)).trans (But.set1 w5 gt _ _)⟩
      rintro v5 - Y hY
      go_simp
      refine hY _ ?_
      clear hY Y
      intro ι hne X hX
      refine still_nil ?_
      clear hX hne
      intro w6 hw6
      have HF := Hid.mk' hw6
      clear hw6
      go_wp2
      go_ret2
      rw [HRES.out, HQ2.out]
      exact ⟨rfl, HF.out⟩
/-- Pick. -/
def pck (T : List Sh) (i : Int) : Int := (ints (awN T)).getD (i % ((awN T).length : Int)).toNat 0
set_option maxRecDepth 100000 in
set_option maxHeartbeats 1000000 in
theorem pickr_any (h : Fr w g gt T) (hi : i64 i) : Calls Try.prog 14 #[ptr g, .int .i64 i] w fun e w' => e = .returned (.tuple #[.int .i64 (if (awN T).isEmpty then 0 else pck T i), .bool (!(awN T).isEmpty)]) ∧ Grow w w' := by
  have HAW := Hid.mk' (awake_list h)
  have hl8 : (awN T).length ≤ 8 := Nat.le_trans (awU_len _ _) h.ok.n8
  have HI := Hid.mk' hi
  unfold pck
  generalize hA : awN T = A at *
  clear hA
  cases A with
  | nil =>
    clear h hl8 hi
    go_enter Try.func14, Try.ntmps14
    go_wp2_with fail
    refine Calls.mono HAW.out ?_
    rintro e w1 ⟨v, rfl, hrow, -, hg1⟩
    obtain ⟨a, c, e1⟩ := own_sl hrow
    have e2 : v = .slice a 0 c := e1
    subst e2
    have HG1 := Hid.mk' hg1
    clear hrow hg1 e1
    go_wp2
    go_ret2
    exact ⟨rfl, HG1.out⟩
  | cons a l =>
    obtain ⟨m, hm⟩ : ∃ m, m = (a :: l).length := ⟨_, rfl⟩
    have hm0 : 0 < m := by rw [hm]; simp
    rw [← hm] at hl8 ⊢
    have HM := Hid.mk' hm
    obtain ⟨r, hr⟩ : ∃ r : Nat, (r : Int) = i % (m : Int) := ⟨(i % (m : Int)).toNat, by have := Int.emod_nonneg i (b := (m : Int)) (by omega); omega⟩
    have hrm : r < m := by have := Int.emod_lt_of_pos i (b := (m : Int)) (by omega); omega
    rw [← hr, Int.toNat_natCast]
    obtain ⟨q, hq⟩ : ∃ q, q = (ints (a :: l)).getD r 0 := ⟨_, rfl⟩
    rw [← hq]
    have HQ := Hid.mk' hq
    have HRM := Hid.mk' hrm
    obtain ⟨z, hz⟩ : ∃ z, z = Int.tmod i (m : Int) := ⟨_, rfl⟩
    have hzr : (0 ≤ z ∧ z = (r : Int)) ∨ (z < 0 ∧ z + (m : Int) = (r : Int)) := by
      have h1 := Int.tmod_eq_emod (a := i) (b := (m : Int))
      rw [← hz, ← hr] at h1
      have hmm : ((m : Int)).natAbs = m := Int.natAbs_natCast m
      split at h1
      · exact .inl ⟨by omega, by omega⟩
      · rcases (by omega : r = 0 ∨ 0 < r) with h0 | h0
        · rename_i hx
          exfalso
          simp only [not_or, Int.not_le] at hx
          apply hx.2
          rw [Int.dvd_iff_emod_eq_zero]
          omega
        · exact .inr ⟨by omega, by omega⟩
    have hmi : ((m : Int) == 0) = false := by rw [beq_eq_false_iff_ne]; omega
    have hmb : (m : Int) ≤ 8 := by omega
    have hmp : (0 : Int) < (m : Int) := by omega
    have hzt : Int.tmod i (m : Int) = z := hz.symm
    have hzb : -8 ≤ z ∧ z ≤ 8 := by omega
    obtain ⟨hzb1, hzb2⟩ := hzb
    have hrb : (r : Int) < (m : Int) := by omega
    have hil : -9223372036854775808 ≤ i := hi.1
    have hiu : i ≤ 9223372036854775807 := hi.2
    clear h hi hm hr hq hz hl8 hm0 hrm
    rcases hzr with ⟨hz0, hze⟩ | ⟨hz0, hze⟩
    case' inl =>
      have hz1 : ¬ z < 0 := by omega
      subst hze
    all_goals
      go_enter Try.func14, Try.ntmps14
      go_wp2_with fail
      refine Calls.mono HAW.out ?_
      rintro e w1 ⟨v, rfl, hrow, -, hg1⟩
      obtain ⟨b, cap, e1, hcell⟩ := row_cell (e := 3) (L := numv (ints (a :: l))) (by rw [show (numv (ints (a :: l))).length = (ints (a :: l)).length from List.length_map ..]; exact hrow) (by simp [numv, ints])
      rw [show (numv (ints (a :: l))).length = m by rw [show (numv (ints (a :: l))).length = (ints (a :: l)).length from List.length_map .., ints_len, HM.out]] at e1
      subst e1
      have HG1 := Hid.mk' hg1
      have hcq : w1.cell? ⟨b, r, none⟩ = some (.int .i64 q) := hcell r _ (by
        have hrl : r < (ints (a :: l)).length := by rw [ints_len, ← HM.out]; exact HRM.out
        rw [HQ.out]
        unfold numv
        rw [List.getElem?_map, List.getElem?_eq_getElem hrl, List.getD_eq_getElem?_getD, List.getElem?_eq_getElem hrl]
        rfl)
      clear hrow hg1 hcell
      go_wp2
      go_ret2
      exact ⟨rfl, HG1.out⟩
end
end Go.Proofs.Ytidblaepklgkcaa
