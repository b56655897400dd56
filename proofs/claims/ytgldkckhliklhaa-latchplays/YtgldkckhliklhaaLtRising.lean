/- The reference's Rising: sorted. -/
import Derived.Test.YtgldkckhliklhaaNumsMore
import Derived.Test.YtgldkckhliklhaaSortRow
import Derived.Test.YtgldkckhliklhaaOwnRow
import Derived.Test.YtgldkckhliklhaaPast
import Derived.Test.YtgldkckhliklhaaIntKit
import Derived.Test.YtgldkckhliklhaaQuDel
namespace Go.Proofs.Ytgldkckhliklhaa
open Go.RowKit

theorem ins_le {O : List Int} (h : O.Pairwise (· ≤ ·)) {a : Nat} {q : Int} (ha : a ≤ O.length) (h1 : ∀ j, j < a → O.getD j 0 ≤ q) (h2 : a = O.length ∨ ¬ O.getD a 0 ≤ q) : (O.take a ++ q :: O.drop a).Pairwise (· ≤ ·) := by
  have hs : (O.take a ++ O.drop a).Pairwise (· ≤ ·) := by rw [List.take_append_drop]; exact h
  rw [List.pairwise_append] at hs ⊢
  obtain ⟨s1, s2, s3⟩ := hs
  have hq : ∀ x ∈ O.drop a, q ≤ x := fun x hx => by
    rcases h2 with h2 | h2
    · rw [List.drop_eq_nil_of_le (by omega)] at hx; cases hx
    · by_cases hal : a < O.length
      · rw [List.drop_eq_getElem_cons hal] at hx s2
        rw [List.getD_eq_getElem?_getD, List.getElem?_eq_getElem hal] at h2
        have h2' : ¬ O[a] ≤ q := h2
        rcases List.mem_cons.1 hx with h3 | h3
        · rw [h3]; omega
        · have := (List.pairwise_cons.1 s2).1 x h3
          omega
      · rw [List.drop_eq_nil_of_le (by omega)] at hx; cases hx
  refine ⟨s1, List.pairwise_cons.2 ⟨hq, s2⟩, fun x hx y hy => ?_⟩
  rcases List.mem_cons.1 hy with h3 | h3
  · obtain ⟨j, hj⟩ := List.getElem?_of_mem hx
    rw [List.getElem?_take] at hj
    split at hj
    · rename_i hja
      have := h1 j hja
      rw [List.getD_eq_getElem?_getD, hj] at this
      have h4 : x ≤ q := this
      rw [h3]; omega
    · cases hj
  · exact s3 x hx y h3
theorem perm_le : ∀ {l m : List Int}, l.Perm m → l.Pairwise (· ≤ ·) → m.Pairwise (· ≤ ·) → l = m
  | [], m, h, _, _ => by rw [List.nil_perm.1 h]
  | a :: l, [], h, _, _ => absurd h.symm (by simp)
  | a :: l, b :: m, h, h1, h2 => by
    rw [List.pairwise_cons] at h1 h2
    have hab : a = b := by
      have ha : a ∈ b :: m := h.mem_iff.1 List.mem_cons_self
      have hb : b ∈ a :: l := h.mem_iff.2 List.mem_cons_self
      rcases List.mem_cons.1 ha with e | e
      · exact e
      · rcases List.mem_cons.1 hb with e2 | e2
        · exact e2.symm
        · have := h2.1 a e
          have := h1.1 b e2
          omega
    subst hab
    rw [perm_le h.cons_inv h1.2 h2.2]
set_option maxRecDepth 100000 in
set_option maxHeartbeats 4000000 in
theorem rising_any {w : World} {v : Value} {ks : List Int} (h : Nums w v ks) (hl : ks.length ≤ 10000) : Calls Try.prog 36 #[v] w fun e w' => ∃ v', e = .returned v' ∧ Nums w' v' (srt ks) ∧ (∀ k, v'.ownBlock = some k → w.heap.size ≤ k) ∧ Grow w w' := by
  have HH := Hid.mk' h
  obtain ⟨n, hn⟩ : ∃ n, n = ks.length := ⟨_, rfl⟩
  obtain ⟨ao, cap, e⟩ := h.len
  rw [← hn] at e
  subst e
  have HN := Hid.mk' hn
  have hnb : (n : Int) ≤ 10000 := by omega
  have HNB : Hid (n ≤ 10000) := by show _ ≤ _; omega
  have HKI : Hid (∀ x ∈ ks, i64 x) := h.1
  clear h hn hl
  go_enter Try.func36, Try.ntmps36
  go_wp2
  go_loopw [3, 4, 5, 6] (fun rv iv _ _ wr => ∃ (i : Nat) (r : Value) (O : List Int), i ≤ n ∧ iv = .int .i64 i ∧ r = rv ∧ wr.ownsRow 0 3 1 r O.length (numv O) ∧ (∀ k, r.ownBlock = some k → w.heap.size ≤ k) ∧ O.Perm (ks.take i) ∧ O.Pairwise (· ≤ ·) ∧ Grow w wr) (fun _ iv _ _ _ => n - (intOf iv).toNat)
  case atStart => exact ⟨0, _, [], Nat.zero_le _, rfl, rfl, World.ownsRow_nil _ _ _ _, (fun k hk => by cases hk), List.Perm.refl _, .nil, But.refl _ _⟩
  case round =>
    rename_i rv u5 u6
    obtain ⟨i, r, O, hin, rfl, rfl, hT, hV, hP, hS, hG⟩ := hrel
    have HT := Hid.mk' hT
    have HV := Hid.mk' hV
    have HG := Hid.mk' hG
    have HP := Hid.mk' hP
    have HS := Hid.mk' hS
    obtain ⟨ra, rc, hr⟩ := own_sl hT
    obtain ⟨m, hm⟩ : ∃ m, m = O.length := ⟨_, rfl⟩
    have HM := Hid.mk' hm
    have HMB : Hid (m ≤ 10000) := by
      show _ ≤ _
      have := hP.length_eq
      rw [List.length_take] at this
      have := HNB.out
      omega
    rw [← hm] at hr
    subst hr
    have HOI : Hid (∀ x ∈ O, i64 x) := fun x hx => HKI.out x (List.mem_of_mem_take (hP.mem_iff.1 hx))
    by_cases hlt : i < n
    · have hlti : (i : Int) < (n : Int) := by omega
      obtain ⟨g, off, cp, e1, -, -, hcell⟩ := HH.out.at (by have := HN.out; omega)
      simp only [Value.slice.injEq] at e1
      obtain ⟨rfl, -, rfl⟩ := e1
      obtain ⟨q, hq⟩ : ∃ q, q = ks.getD i 0 := ⟨_, rfl⟩
      have hc3 := hcell i (by have := HN.out; omega)
      rw [← hq] at hc3
      have HC3 : Hid (wr.cell? ⟨g, off + i, none⟩ = some (.int .i64 q)) := grow_cell hG hc3
      have HKX : Hid (ks.take (i + 1) = ks.take i ++ [q]) := by
        show _ = _
        have h3 : i < ks.length := by have := HN.out; omega
        rw [List.take_succ_eq_append_getElem h3, hq, List.getD_eq_getElem?_getD, List.getElem?_eq_getElem h3]
        rfl
      have hmb : (m : Int) ≤ 10000 := by have := HMB.out; omega
      have HF : Hid (∀ wz, Grow wr wz → wz.cell? ⟨g, off + i, none⟩ = some (.int .i64 q) ∧ wz.ownsRow 0 3 1 (.slice ra m rc) O.length (numv O) ∧ Grow w wz ∧ wr.heap.size ≤ wz.heap.size) := fun wz k => ⟨grow_cell k HC3.out, ownsRow_grow HT.out k, HG.out.trans k, k.size⟩
      clear hT hV hG hP hS hcell hq hm HC3 hc3
      go_wp2
      go_loopw [5] (fun av wq => ∃ a : Nat, a ≤ m ∧ av = .int .i64 a ∧ (∀ j, j < a → O.getD j 0 ≤ q) ∧ Grow wr wq) (fun av _ => m - (intOf av).toNat)
      case atStart => exact ⟨0, Nat.zero_le _, rfl, fun j hj => absurd hj (by omega), But.refl _ _⟩
      case round =>
        obtain ⟨a, ham, rfl, hlo, hgw⟩ := hrel
        have HLO := Hid.mk' hlo
        have HGW := Hid.mk' hgw
        clear hlo
        by_cases hal : a < m
        · have hali : (a : Int) < (m : Int) := by omega
          obtain ⟨oa, hoa⟩ : ∃ oa, oa = O.getD a 0 := ⟨_, rfl⟩
          have HOA := Hid.mk' hoa
          obtain ⟨go, rfl, hco⟩ : ∃ go, ra = some ⟨go, 0, none⟩ ∧ ∀ wz, Grow wr wz → wz.cell? ⟨go, a, none⟩ = some (.int .i64 oa) := by
            have fr := (HF.out wr hgw).2.1
            have hsh : RowOf wr (fun _ => True) 3 1 (.slice ra m rc) O.length (numv O) := ⟨fr, fun _ _ => trivial⟩
            obtain ⟨ao', c', e', h2⟩ := hsh.shape
            obtain ⟨go, e2, -, -, hc⟩ := h2 (by have := HM.out; omega)
            simp only [Value.slice.injEq] at e'
            refine ⟨go, e'.1.trans e2, fun wz k => grow_cell k (hc a _ ?_)⟩
            have hal' : a < O.length := by have := HM.out; omega
            rw [hoa, List.getD_eq_getElem?_getD, List.getElem?_eq_getElem hal']
            simp [numv, hal']
          have HCO := Hid.mk' hco
          clear hoa hco
          go_upto_region 6 with fail
          refine region_chain [] [0, 1, 2, 3, 4, 5, 6, 7, 8, 9, 10, 11, 12, 13, 14] (Grow wr) (Grow wr) (by kernel_rfl) (by kernel_rfl) (fun _ _ h k => h.trans k) (fun _ h => h) ((But.refl _ wr).drew) ?_
          intro ι hne X hX
          have d1 : ∀ x, (X x).cell? ⟨g, off + i, none⟩ = some (.int .i64 q) := fun x => (HF.out _ (HGW.out.trans (hX x))).1
          have d2 : ∀ x, (X x).cell? ⟨go, a, none⟩ = some (.int .i64 oa) := fun x => HCO.out _ (hX x)
          iterate 15 (refine still_step rfl (fun K hK => ?_); go_simp; refine hK _ ?_; clear hK K)
          refine still_nil ?_
          clear hX hne d1 d2
          intro w4 hw4
          have HG4 := Hid.mk' (HGW.out.trans hw4)
          clear hw4 hgw HGW HCO
          by_cases hoq : oa ≤ q
          · have HST2 : Hid (∀ j, j < a + 1 → O.getD j 0 ≤ q) := fun j hj => by
              by_cases e : j = a
              · rw [e, ← HOA.out]; exact hoq
              · exact HLO.out j (by omega)
            go_wp2
            exact ⟨⟨a + 1, by omega, by go_num, HST2.out, HG4.out⟩, by simp [intOf]; omega⟩
          · have HST : Hid (a = O.length ∨ ¬ O.getD a 0 ≤ q) := .inr (by rw [← HOA.out]; exact hoq)
            obtain ⟨fc4, fr4, fg4, fs4⟩ := HF.out w4 HG4.out
            have hml : O.length = m := HM.out.symm
            obtain ⟨lo, hi', hlo1, hhi1, hnl, hnh⟩ := nums_cut fr4 HOI.out (by have := HMB.out; omega) (a := a) (by omega)
            have HL1 := Hid.mk' hlo1
            have HH1 := Hid.mk' hhi1
            have HNL := Hid.mk' hnl
            have HNH := Hid.mk' hnh
            have HC4 := Hid.mk' fc4
            have HG0 := Hid.mk' fg4
            clear fc4 fr4 fg4 fs4 hlo1 hhi1 hnl hnh
            go_upto_region 10 with (first
              | (refine wpList_runH rfl (exec_slc rfl rfl rfl rfl (HL1.out _)) ?_)
              | (refine wpList_someH rfl (exec_appendN (v := .slice none 0 0) (n := 0) (xs := []) (ks := O.take a) rfl rfl (World.ownsRow_nil _ _ _ _) rfl HNL.out (by have := HMB.out; rw [List.length_take]; omega)) ?_; intro v6 w6 hap)
              | fail)
            have hap' : Appd w4 w6 3 1 (.slice none 0 0) v6 (0 + (O.take a).length) ([] ++ numv (O.take a)) := hap
            have hg6 : Grow w4 w6 := hap'.but.mono (fun b _ e => by cases e)
            have HG6 := Hid.mk' hg6
            rw [Nat.zero_add, List.nil_append] at hap'
            have HR6 := Hid.mk' hap'.own
            have HV6 : Hid (∀ k, v6.ownBlock = some k → w4.heap.size ≤ k) := fun k hk => by
              rcases hap'.at' with e | e
              · rw [e] at hk; cases hk
              · rw [e] at hk; have := Option.some.inj hk; omega
            have b3 : w6.cell? ⟨g, off + i, none⟩ = some (.int .i64 q) := grow_cell hg6 HC4.out
            have HAL : Hid (Grow w6 (w6.alloc (.cells #[.int .i64 q] 3))) := (But.refl _ w6).alloc _
            have HBL : Hid (Blk (w6.alloc (.cells #[.int .i64 q] 3)) w6.heap.size 3 (numv [q])) := Blk.new (L := numv [q]) rfl
            have HTL : Hid ((O.take a).length ≤ 10000) := by show _ ≤ _; rw [List.length_take]; have := HMB.out; omega
            clear hap hap' hg6 HL1 HNL
            go_upto_region 11 with (first
              | (refine wpList_runH rfl (exec_row1 Try.underlying33 infNum (by decide) (by decide) rfl rfl rfl) ?_)
              | (refine wpList_someH rfl (exec_append (v := v6) (n := (O.take a).length) (xs := numv (O.take a)) (news := numv [q]) Try.underlying33 infNum rfl (by decide) rfl rfl (ownsRow_grow HR6.out HAL.out) rfl rfl (fun j u hj => HBL.out.cells0 j u hj) (fun u hu => by rw [show u = .int .i64 q by simpa [numv] using hu]; rfl) (by have := HTL.out; omega) (by decide)) ?_; intro v7 w7 hap)
              | fail)
            have hap' : Appd (w6.alloc (.cells #[.int .i64 q] 3)) w7 3 1 v6 v7 ((O.take a).length + 1) (numv (O.take a) ++ numv [q]) := hap
            have hg7 : Grow w4 w7 := (HG6.out.trans HAL.out).then hap'.but (fun b hb e => by have := HV6.out b e; omega)
            have HG7 := Hid.mk' hg7
            have HR7 := Hid.mk' hap'.own
            have HV7 : Hid (∀ k, v7.ownBlock = some k → w4.heap.size ≤ k) := fun k hk => by
              rcases hap'.at' with e | e
              · exact HV6.out k (by rw [← e]; exact hk)
              · rw [e] at hk
                have := Option.some.inj hk
                have := HG6.out.size
                have := HAL.out.size
                omega
            have HNH7 := Hid.mk' (HNH.out.grow hg7)
            clear hap hap' hg7 b3 HR6 HAL HBL
            go_wp2_with (first
              | (refine wpList_runH rfl (exec_slc rfl rfl rfl rfl (HH1.out _)) ?_)
              | (refine wpList_someH rfl (exec_appendN (v := v7) (n := (O.take a).length + 1) (xs := numv (O.take a) ++ numv [q]) (ks := O.drop a) rfl rfl HR7.out rfl HNH7.out (by have := HTL.out; have := HMB.out; rw [List.length_drop]; omega)) ?_; intro v8 w8 hap)
              | fail)
            have hap' : Appd w7 w8 3 1 v7 v8 ((O.take a).length + 1 + (O.drop a).length) (numv (O.take a) ++ numv [q] ++ numv (O.drop a)) := hap
            refine ⟨⟨i + 1, v8, O.take a ++ q :: O.drop a, by omega, by go_num, rfl, ?_, fun k hk => ?_, ?_, ins_le HS.out (by omega) HLO.out HST.out, ?_⟩, by simp [intOf]; omega⟩
            · rw [show (O.take a ++ q :: O.drop a).length = (O.take a).length + 1 + (O.drop a).length by simp; omega, show numv (O.take a ++ q :: O.drop a) = numv (O.take a) ++ numv [q] ++ numv (O.drop a) by simp [numv]]
              exact hap'.own
            · have h9 := HG0.out.size
              rcases hap'.at' with e | e
              · have := HV7.out k (by rw [← e]; exact hk); omega
              · rw [e] at hk
                have := Option.some.inj hk
                have := HG7.out.size
                omega
            · rw [HKX.out]
              refine List.perm_middle.trans ?_
              rw [List.take_append_drop]
              exact (List.Perm.cons q HP.out).trans (List.perm_append_comm (l₁ := [q]))
            · exact HG0.out.trans (HG7.out.then hap'.but (fun b hb e => by have := HV7.out b e; omega))
        · have hali : ¬ ((a : Int) < (m : Int)) := by omega
          have HST : Hid (a = O.length ∨ ¬ O.getD a 0 ≤ q) := .inl (by have := HM.out; omega)
          go_upto_region 6 with fail
          refine region_chain [] [0, 1, 2, 3, 4, 5, 6, 7, 8, 9, 10, 11, 12, 13, 14] (Grow wr) (Grow wr) (by kernel_rfl) (by kernel_rfl) (fun _ _ h k => h.trans k) (fun _ h => h) ((But.refl _ wr).drew) ?_
          intro ι hne X hX
          iterate 4 (refine still_step rfl (fun K hK => ?_); go_simp; refine hK _ ?_; clear hK K)
          refine still_step rfl (fun K hK => ?_)
          have hK' := fun (a : Act) h1 h4 => hK a (still_pass1 (a := a) 4 true 17 (.bool false) [5, 6, 7, 8, 9, 10, 11, 12, 13] [14] [18, 19, 20, 21, 22, 23, 24, 25, 26] rfl rfl (fun h => by cases h) (by kernel_rfl) (by kernel_rfl) h1 h4)
          clear hK
          go_simp
          refine hK' _ (by kernel_rfl) ?_
          clear hK' K
          intro K hK
          simp only [undefL]
          go_simp
          refine hK _ ?_
          clear hK K
          iterate 1 (refine still_step rfl (fun K hK => ?_); go_simp; refine hK _ ?_; clear hK K)
          refine still_nil ?_
          clear hX hne
          intro w4 hw4
          have HG4 := Hid.mk' (HGW.out.trans hw4)
          clear hw4 hgw HGW
          obtain ⟨fc4, fr4, fg4, fs4⟩ := HF.out w4 HG4.out
          have hml : O.length = m := HM.out.symm
          obtain ⟨lo, hi', hlo1, hhi1, hnl, hnh⟩ := nums_cut fr4 HOI.out (by have := HMB.out; omega) (a := a) (by omega)
          have HL1 := Hid.mk' hlo1
          have HH1 := Hid.mk' hhi1
          have HNL := Hid.mk' hnl
          have HNH := Hid.mk' hnh
          have HC4 := Hid.mk' fc4
          have HG0 := Hid.mk' fg4
          clear fc4 fr4 fg4 fs4 hlo1 hhi1 hnl hnh
          go_upto_region 10 with (first
            | (refine wpList_runH rfl (exec_slc rfl rfl rfl rfl (HL1.out _)) ?_)
            | (refine wpList_someH rfl (exec_appendN (v := .slice none 0 0) (n := 0) (xs := []) (ks := O.take a) rfl rfl (World.ownsRow_nil _ _ _ _) rfl HNL.out (by have := HMB.out; rw [List.length_take]; omega)) ?_; intro v6 w6 hap)
            | fail)
          have hap' : Appd w4 w6 3 1 (.slice none 0 0) v6 (0 + (O.take a).length) ([] ++ numv (O.take a)) := hap
          have hg6 : Grow w4 w6 := hap'.but.mono (fun b _ e => by cases e)
          have HG6 := Hid.mk' hg6
          rw [Nat.zero_add, List.nil_append] at hap'
          have HR6 := Hid.mk' hap'.own
          have HV6 : Hid (∀ k, v6.ownBlock = some k → w4.heap.size ≤ k) := fun k hk => by
            rcases hap'.at' with e | e
            · rw [e] at hk; cases hk
            · rw [e] at hk; have := Option.some.inj hk; omega
          have b3 : w6.cell? ⟨g, off + i, none⟩ = some (.int .i64 q) := grow_cell hg6 HC4.out
          have HAL : Hid (Grow w6 (w6.alloc (.cells #[.int .i64 q] 3))) := (But.refl _ w6).alloc _
          have HBL : Hid (Blk (w6.alloc (.cells #[.int .i64 q] 3)) w6.heap.size 3 (numv [q])) := Blk.new (L := numv [q]) rfl
          have HTL : Hid ((O.take a).length ≤ 10000) := by show _ ≤ _; rw [List.length_take]; have := HMB.out; omega
          clear hap hap' hg6 HL1 HNL
          go_upto_region 11 with (first
            | (refine wpList_runH rfl (exec_row1 Try.underlying33 infNum (by decide) (by decide) rfl rfl rfl) ?_)
            | (refine wpList_someH rfl (exec_append (v := v6) (n := (O.take a).length) (xs := numv (O.take a)) (news := numv [q]) Try.underlying33 infNum rfl (by decide) rfl rfl (ownsRow_grow HR6.out HAL.out) rfl rfl (fun j u hj => HBL.out.cells0 j u hj) (fun u hu => by rw [show u = .int .i64 q by simpa [numv] using hu]; rfl) (by have := HTL.out; omega) (by decide)) ?_; intro v7 w7 hap)
            | fail)
          have hap' : Appd (w6.alloc (.cells #[.int .i64 q] 3)) w7 3 1 v6 v7 ((O.take a).length + 1) (numv (O.take a) ++ numv [q]) := hap
          have hg7 : Grow w4 w7 := (HG6.out.trans HAL.out).then hap'.but (fun b hb e => by have := HV6.out b e; omega)
          have HG7 := Hid.mk' hg7
          have HR7 := Hid.mk' hap'.own
          have HV7 : Hid (∀ k, v7.ownBlock = some k → w4.heap.size ≤ k) := fun k hk => by
            rcases hap'.at' with e | e
            · exact HV6.out k (by rw [← e]; exact hk)
            · rw [e] at hk
              have := Option.some.inj hk
              have := HG6.out.size
              have := HAL.out.size
              omega
          have HNH7 := Hid.mk' (HNH.out.grow hg7)
          clear hap hap' hg7 b3 HR6 HAL HBL
          go_wp2_with (first
            | (refine wpList_runH rfl (exec_slc rfl rfl rfl rfl (HH1.out _)) ?_)
            | (refine wpList_someH rfl (exec_appendN (v := v7) (n := (O.take a).length + 1) (xs := numv (O.take a) ++ numv [q]) (ks := O.drop a) rfl rfl HR7.out rfl HNH7.out (by have := HTL.out; have := HMB.out; rw [List.length_drop]; omega)) ?_; intro v8 w8 hap)
            | fail)
          have hap' : Appd w7 w8 3 1 v7 v8 ((O.take a).length + 1 + (O.drop a).length) (numv (O.take a) ++ numv [q] ++ numv (O.drop a)) := hap
          refine ⟨⟨i + 1, v8, O.take a ++ q :: O.drop a, by omega, by go_num, rfl, ?_, fun k hk => ?_, ?_, ins_le HS.out (by omega) HLO.out HST.out, ?_⟩, by simp [intOf]; omega⟩
          · rw [show (O.take a ++ q :: O.drop a).length = (O.take a).length + 1 + (O.drop a).length by simp; omega, show numv (O.take a ++ q :: O.drop a) = numv (O.take a) ++ numv [q] ++ numv (O.drop a) by simp [numv]]
            exact hap'.own
          · have h9 := HG0.out.size
            rcases hap'.at' with e | e
            · have := HV7.out k (by rw [← e]; exact hk); omega
            · rw [e] at hk
              have := Option.some.inj hk
              have := HG7.out.size
              omega
          · rw [HKX.out]
            refine List.perm_middle.trans ?_
            rw [List.take_append_drop]
            exact (List.Perm.cons q HP.out).trans (List.perm_append_comm (l₁ := [q]))
          · exact HG0.out.trans (HG7.out.then hap'.but (fun b hb e => by have := HV7.out b e; omega))
    · have hlti : ¬ ((i : Int) < (n : Int)) := by omega
      have hE : ks.take i = ks := List.take_of_length_le (by have := HN.out; omega)
      rw [hE] at hP
      have hris : O = srt ks := perm_le (hP.trans (srt_perm ks).symm) hS (srt_le ks)
      have HNU : Hid (Nums wr (.slice ra m rc) (srt ks)) := by rw [← hris]; exact Nums.ofRow hT HOI.out (by have := HMB.out; omega)
      clear hT hG hP hS hE hris hm
      have HV2 := Hid.mk' hV
      clear hV
      go_wp2
      go_ret
      exact ⟨_, rfl, HNU.out, HV2.out, HG.out⟩
end Go.Proofs.Ytgldkckhliklhaa
