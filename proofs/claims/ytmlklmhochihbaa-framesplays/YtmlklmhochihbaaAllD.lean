/- FxDrop, NumsMore, FxVic, FrPin, FrFree, FrDel, FrFreed, FrNew, FrVictim, SortInts, FrKeys, Past, FxKeys, FrLaw, Rws, Inner, FloatView, FrView, PickAny. -/
import Derived.Test.YtmlklmhochihbaaAllC
import Derived.Test.YtmlklmhochihbaaAllB
import Derived.Deep.Cut
import Derived.Shelf.SortM.Plain
import Derived.Shelf.SortM.SortNone
import Derived.Shelf.SlIterI.Nil
import Derived.ProofKit
import Derived.OpenShut
import Derived.ChangeOld
import Derived.Below
import Derived.Test.YtmlklmhochihbaaRows
import Derived.WalkKit
import Derived.SizedLaws
import Derived.Deep.Slices
import Derived.WalkLawsBesides
/- The reference's frames: Drop. -/
namespace Go.Proofs.Ytmlklmhochihbaa
open Go.RowKit

theorem filter_erase {l : List FrE} (hn : (l.map (·.1)).Nodup) {i : Nat} {e : FrE} (hi : l[i]? = some e) : l.filter (fun x => !(x.1 == e.1)) = l.take i ++ l.drop (i + 1) := by
  have h3 := List.getElem?_eq_some_iff.1 hi
  have e1 : l = l.take i ++ e :: l.drop (i + 1) := by rw [← h3.2, List.getElem_cons_drop, List.take_append_drop]
  have hn2 := hn
  rw [e1, List.map_append, List.map_cons, List.nodup_append] at hn2
  obtain ⟨-, h4, h5⟩ := hn2
  rw [List.nodup_cons] at h4
  conv => lhs; rw [e1]
  rw [List.filter_append, List.filter_cons, if_neg (by simp)]
  congr 1
  · rw [List.filter_eq_self]
    intro x hx
    have : x.1 ≠ e.1 := h5 x.1 (List.mem_map.2 ⟨x, hx, rfl⟩) e.1 List.mem_cons_self
    simpa using this
  · rw [List.filter_eq_self]
    intro x hx
    have : x.1 ≠ e.1 := fun e2 => h4.1 (List.mem_map.2 ⟨x, hx, e2⟩)
    simpa using this
section
variable {w w' w1 : World} {ro ro1 : Owner} {gx : Nat} {vl vp vs vh v' : Value} {FL FL' : List FrV} {s s' : St} {R : Nat → Prop}
theorem flat_drop {α : Type} {f : α → List Value} {sz : Nat} (L : List α) (hs : ∀ x ∈ L, (f x).length = sz) (k : Nat) : (L.drop k).flatMap f = (L.flatMap f).drop (k * sz) := by
  have h1 : L.flatMap f = (L.take k).flatMap f ++ (L.drop k).flatMap f := by rw [← List.flatMap_append, List.take_append_drop]
  by_cases hk : k ≤ L.length
  · rw [h1, List.drop_left' (by rw [flat_len' _ (fun x hx => hs x (List.mem_of_mem_take hx)), List.length_take, Nat.min_eq_left hk])]
  · rw [List.drop_eq_nil_of_le (by omega), List.drop_eq_nil_of_le (by rw [flat_len' L hs]; exact Nat.mul_le_mul_right _ (by omega))]
    rfl
theorem flat_take {α : Type} {f : α → List Value} {sz : Nat} (L : List α) (hs : ∀ x ∈ L, (f x).length = sz) (k : Nat) (hk : k ≤ L.length) : (L.take k).flatMap f = (L.flatMap f).take (k * sz) := by
  have h1 : L.flatMap f = (L.take k).flatMap f ++ (L.drop k).flatMap f := by rw [← List.flatMap_append, List.take_append_drop]
  rw [h1, List.take_left' (by rw [flat_len' _ (fun x hx => hs x (List.mem_of_mem_take hx)), List.length_take, Nat.min_eq_left hk])]
theorem RxM.ones (h : RxM w ro gx vl vp vs vh FL s) {L : List FrV} (hL : ∀ e ∈ L, e ∈ FL) : ∀ u ∈ L.flatMap fxc, u.oneCell' = true := fun u hu => by
  obtain ⟨e, he, hue⟩ := List.mem_flatMap.1 hu
  exact fxc_one (h.bt e (hL e he)) u hue
set_option maxRecDepth 100000 in
set_option maxHeartbeats 4000000 in
theorem rxdrop_any (h : Rx w ro gx s) {K : Int} : Calls Try.prog 36 #[ptr gx, .int .i64 K] w fun e w' => e = .returned (.int .i64 (s.dropc K)) ∧ RxTo w ro gx (s.drop K) w' := by
  have HA := Hid.mk' (rxat_any h K)
  have HP := Hid.mk' (rxpinned_any h K)
  have hsm := h.same (But.refl _ w)
  obtain ⟨vl, vp, vs, vh, FL, h⟩ := h
  have HH := Hid.mk' h
  cases hh : s.has K with
  | false =>
    have hrc : s.dropc K = 5 := by unfold St.dropc; rw [hh]; rfl
    have HS : Hid (RxTo w ro gx (s.drop K) w) := by unfold St.drop; rw [hrc]; exact hsm
    rw [hrc]
    clear h hsm hrc
    go_enter Try.func36, Try.ntmps36
    go_wp2_with fail
    refine Calls.mono HA.out ?_
    rintro e w1 ⟨hw, ⟨i, e0, h1, h2, rfl⟩ | ⟨-, rfl⟩⟩
    · exfalso
      have : s.has K = true := St.has_iff.2 ⟨e0, List.mem_of_getElem? h1, h2⟩
      rw [hh] at this
      cases this
    have h2 := hw.symm
    subst h2
    clear hw hh
    go_wp2
    go_ret
    exact ⟨rfl, HS.out⟩
  | true =>
    cases hp : s.pinned K with
    | true =>
      have hrc : s.dropc K = 6 := by unfold St.dropc; rw [hh, hp]; rfl
      have HS : Hid (RxTo w ro gx (s.drop K) w) := by unfold St.drop; rw [hrc]; exact hsm
      rw [hrc]
      rw [hp] at HP
      clear h hsm hrc hp
      go_enter Try.func36, Try.ntmps36
      go_wp2_with fail
      refine Calls.mono HA.out ?_
      rintro e w1 ⟨hw, ⟨i, e0, h1, h2, rfl⟩ | ⟨h1, rfl⟩⟩
      · have h3 := hw.symm
        subst h3
        have hii : ¬ ((i : Int) < 0) := by omega
        clear hw h1 h2 hh
        go_wp2_with fail
        refine Calls.mono HP.out ?_
        rintro e w1 ⟨rfl, hw⟩
        have h3 := hw.symm
        subst h3
        clear hw
        go_wp2
        go_ret
        exact ⟨rfl, HS.out⟩
      · rw [hh] at h1; cases h1
    | false =>
      have hrc : s.dropc K = 0 := by unfold St.dropc; rw [hh, hp]; rfl
      have hde : s.drop K = { s with fr := s.fr.filter (fun e => !(e.1 == K)), hl := s.hl.filter (fun e => !(e.1 == K)) } := by unfold St.drop; rw [if_pos hrc]
      have hok := h.ok.drop K
      rw [hrc]
      rw [hp] at HP
      rw [hde] at hok ⊢
      have HOK := Hid.mk' hok
      clear h hsm hrc hp hde hok
      go_enter Try.func36, Try.ntmps36
      go_wp2_with fail
      refine Calls.mono HA.out ?_
      rintro e w1 ⟨hw, ⟨i, e0, h1, h2, rfl⟩ | ⟨h1, rfl⟩⟩
      · have h3 := hw.symm
        subst h3
        obtain ⟨⟨e1, qv⟩, hq⟩ : ∃ x, FL[i]? = some x := ⟨_, List.getElem?_eq_getElem (by rw [HH.out.lenL]; exact (List.getElem?_eq_some_iff.1 h1).1)⟩
        obtain ⟨g, cp, hvl, hgt, -⟩ := HH.out.rl.cellAt (fun e _ => fxc_len e) hq
        subst hvl
        have hil : i < FL.length := (List.getElem?_eq_some_iff.1 hq).1
        have hii : ¬ ((i : Int) < 0) := by omega
        obtain ⟨n, hn⟩ : ∃ n, n = FL.length := ⟨_, rfl⟩
        have hin : i < n := by omega
        have hlen : (i : Int) < (n : Int) := by omega
        have hh' := HH.out
        rw [← hn] at hh'
        have hcap := hh'.rl
        rw [← hn] at hcap
        have hcp := hcap.cap
        have hicp : (i : Int) ≤ (cp : Int) := by omega
        have HBK := Hid.mk' hh'.ht.blk
        have HN := Hid.mk' hn
        have HNB : Hid (n ≤ 1024) := by show _ ≤ _; have := HH.out.small.1; omega
        have hii1 : (i : Int) ≤ 1024 := by have := HNB.out; omega
        have HIN := Hid.mk' hin
        have HFE : Hid (s.fr.filter (fun e => !(e.1 == K)) = s.fr.take i ++ s.fr.drop (i + 1)) := by rw [← h2]; exact filter_erase HH.out.ok.nd h1
        obtain ⟨A, ca, hcut, hA, -⟩ := cut_from (T := 66) (e := 65) (sz := 3) (by kernel_rfl) (by kernel_rfl) (fun w0 => by kernel_rfl) (b := g) (n := n) (cap := cp) (k := i + 1) (by omega) (by omega)
        rw [show ((i + 1 : Nat) : Int) = (i : Int) + 1 by push_cast; rfl] at hcut
        have HCUT := Hid.mk' hcut
        have HAA := Hid.mk' hA
        have HC1 : Hid (∀ j u, ((FL.take i).flatMap fxc)[j]? = some u → w.cell? ((⟨g, 0, none⟩ : Addr).add j) = some u) := fun j u hj => by
          rw [flat_take FL (fun e _ => fxc_len e) i (by omega), List.getElem?_take] at hj
          split at hj
          · obtain ⟨ao, cc, e5, hsh⟩ := HH.out.rl.shape
            obtain ⟨g', e6, -, -, hc⟩ := hsh (by omega)
            simp only [Value.slice.injEq] at e5
            have e7 := e5.1.trans e6
            cases e7
            have := hc j u hj
            rw [addr_add, Nat.zero_add]
            exact this
          · cases hj
        have HC2 : Hid (∀ W, Grow w W → ∀ j u, ((FL.drop (i + 1)).flatMap fxc)[j]? = some u → W.cell? (A.add j) = some u) := fun W k j u hj => by
          by_cases h9 : i + 1 < n
          · rw [HAA.out h9, addr_add]
            rw [flat_drop FL (fun e _ => fxc_len e), List.getElem?_drop] at hj
            obtain ⟨ao, cc, e5, hsh⟩ := (HH.out.grow k).rl.shape
            obtain ⟨g', e6, -, -, hc⟩ := hsh (by have := HN.out; omega)
            simp only [Value.slice.injEq] at e5
            have e7 := e5.1.trans e6
            cases e7
            exact hc _ u hj
          · rw [List.drop_eq_nil_of_le (by have := HN.out; omega)] at hj
            simp at hj
        have hl1 : ((FL.take i).flatMap fxc).length = i * 3 := by rw [flat_len' _ (fun e _ => fxc_len e), List.length_take, Nat.min_eq_left (by omega)]
        have hl2 : ((FL.drop (i + 1)).flatMap fxc).length = (n - (i + 1)) * 3 := by rw [flat_len' _ (fun e _ => fxc_len e), List.length_drop, hn]
        have HL1 := Hid.mk' hl1
        have HL2 := Hid.mk' hl2
        have HO1 := Hid.mk' (HH.out.ones (L := FL.take i) (fun e he => List.mem_of_mem_take he))
        have HO2 := Hid.mk' (HH.out.ones (L := FL.drop (i + 1)) (fun e he => List.mem_of_mem_drop he))
        have c1 : w.cell? ⟨gx, 1, none⟩ = some (.slice (some ⟨g, 0, none⟩) n cp) := HBK.out.cell 1
        clear hw h1 h2 hq hgt hil hin hh' hcap hcp hn hh HA hcut hA hl1 hl2
        go_wp2_with fail
        refine Calls.mono HP.out ?_
        rintro e w1 ⟨rfl, hw⟩
        have h3 := hw.symm
        subst h3
        clear hw HP
        go_upto_region 8 with (first
          | (refine wpList_someH rfl (exec_append (v := .slice none 0 0) (n := 0) (xs := []) (news := (FL.take i).flatMap fxc) Try.underlying66 infFr rfl (by decide) rfl rfl (World.ownsRow_nil _ _ _ _) rfl HL1.out HC1.out HO1.out (by have := HNB.out; omega) (by decide)) ?_; intro v6 w6 hap)
          | fail)
        have hap' : Appd w w6 65 3 (.slice none 0 0) v6 (0 + i) ([] ++ (FL.take i).flatMap fxc) := hap
        have hg6 : Grow w w6 := hap'.but.mono (fun b _ e => by cases e)
        have HG6 := Hid.mk' hg6
        obtain ⟨a6, c6, e6⟩ := own_sl hap'.own
        rw [Nat.zero_add, List.nil_append] at hap'
        rw [Nat.zero_add] at e6
        have HR6 := Hid.mk' hap'.own
        have HV6 : Hid (∀ k, v6.ownBlock = some k → w.heap.size ≤ k) := fun k hk => by
          rcases hap'.at' with e | e
          · rw [e] at hk; cases hk
          · rw [e] at hk; have := Option.some.inj hk; omega
        subst e6
        have hbk6 := HBK.out.but hg6 (fun h => h)
        have d1 : w6.cell? ⟨gx, 1, none⟩ = some (.slice (some ⟨g, 0, none⟩) n cp) := hbk6.cell 1
        have HBK6 := Hid.mk' hbk6
        clear hap hap' hg6 hbk6 c1
        go_upto_region 9 with (first
          | (refine wpList_runH rfl (exec_slc rfl rfl rfl rfl (HCUT.out _)) ?_)
          | (refine wpList_someH rfl (exec_append (v := .slice a6 i c6) (n := i) (xs := (FL.take i).flatMap fxc) (news := (FL.drop (i + 1)).flatMap fxc) Try.underlying66 infFr rfl (by decide) rfl rfl HR6.out rfl HL2.out (HC2.out _ HG6.out) HO2.out (by have := HNB.out; omega) (by decide)) ?_; intro v7 w7 hap; obtain ⟨a7, c7, e7⟩ := own_sl hap.own; subst e7; have d7 : w7.cell? ⟨gx, 1, none⟩ = some (.slice (some ⟨g, 0, none⟩) n cp) := (HBK6.out.but hap.but (fun e => by have := HV6.out gx e; have := HBK.out.lt; omega)).cell 1; have f7 : w7.frozen? ⟨gx, 1, none⟩ = false := (HBK6.out.but hap.but (fun e => by have := HV6.out gx e; have := HBK.out.lt; omega)).free 1)
          | fail)
        have hap' : Appd w6 w7 65 3 (.slice a6 i c6) (.slice a7 (i + (n - (i + 1))) c7) (i + (n - (i + 1))) ((FL.take i).flatMap fxc ++ (FL.drop (i + 1)).flatMap fxc) := hap
        have hg7 : Grow w w7 := HG6.out.then hap'.but (fun b hb e => by have := HV6.out b e; omega)
        have hrow : w7.ownsRow 0 65 3 (.slice a7 (i + (n - (i + 1))) c7) (FL.take i ++ FL.drop (i + 1)).length ((FL.take i ++ FL.drop (i + 1)).flatMap fxc) := by
          rw [List.flatMap_append, show (FL.take i ++ FL.drop (i + 1)).length = i + (n - (i + 1)) by rw [List.length_append, List.length_take, List.length_drop, ← HN.out]; have := HIN.out; omega]
          exact hap'.own
        have hv7 : ∀ k, (Value.slice a7 (i + (n - (i + 1))) c7).ownBlock = some k → w.heap.size ≤ k ∨ ro k = .sto := fun k hk => by
          rcases hap'.at' with e | e
          · exact .inl (HV6.out k (by rw [← e]; exact hk))
          · rw [e] at hk; have := Option.some.inj hk; have := HG6.out.size; exact .inl (by omega)
        have hok1 : Sok { s with fr := s.fr.filter (fun e => !(e.1 == K)) } := ⟨HOK.out.m1, HOK.out.m2, HOK.out.nd, HOK.out.le, HOK.out.ik, HOK.out.pk, HOK.out.tn, HOK.out.sk, HOK.out.sl⟩
        obtain ⟨g1, g2, g3⟩ := HH.out.setL (R := fun _ => False) (fr := s.fr.filter (fun e => !(e.1 == K))) hg7 (fun _ h => h.elim) hrow hv7 (by rw [List.map_append, List.map_take, List.map_drop, HH.out.fl]; exact HFE.out.symm) (fun e he => ((HH.out.grow hg7).bt e (by
            rcases List.mem_append.1 he with h5 | h5
            · exact List.mem_of_mem_take h5
            · exact List.mem_of_mem_drop h5))) hok1
        have HG1 := Hid.mk' g1
        have HG2 := Hid.mk' g2
        have HG3 := Hid.mk' g3
        obtain ⟨W7, hW7⟩ : ∃ W7, W7 = w7.setCell ⟨gx, 1, none⟩ (.slice a7 (i + (n - (i + 1))) c7) := ⟨_, rfl⟩
        rw [← hW7] at HG1 HG3 ⊢
        have HDR := Hid.mk' (frdrop_any HG1.out.ht K)
        clear g1 g2 g3 hap hap' hg7 hrow hv7 hok1 hW7 d1 d7 f7
        go_wp2_with fail
        refine Calls.mono HDR.out ?_
        rintro e w8 ⟨rfl, hto⟩
        have HFIN := Hid.mk' (RxTo.step HG2.out HG3.out (HG1.out.setH hto))
        clear hto
        go_wp2
        go_ret
        exact ⟨rfl, HFIN.out⟩
      · rw [hh] at h1; cases h1
end
end Go.Proofs.Ytmlklmhochihbaa
/- General: numbers behind others, numbers cut; the reference's SameInts. -/
namespace Go.Proofs.Ytmlklmhochihbaa
open Go.RowKit

/-- Numbers are put behind an own row of some. -/
theorem exec_appendN {w : World} {o : Oper} {ρ : Operand → Value} {v u : Value} {n : Nat} {xs : List Value} {ks : List Int} {x y : Operand} (ho : o.op = .call { callee := .builtin .append, args := #[x, y], argTypes := #[40, 40] }) (hx : ρ x = v) (hv : w.ownsRow 0 3 1 v n xs) (hy : ρ y = u) (hu : Nums w u ks) (hn : n + ks.length ≤ 1000000) :
    ∃ v' w', (execOp ρ o).run Try.prog w = .ok (.value v') w' ∧ Appd w w' 3 1 v v' (n + ks.length) (xs ++ numv ks) := by
  have key : ∀ (ad : Addr) (c : Nat), u = .slice (some ad) ks.length c → (∀ j z, (numv ks)[j]? = some z → w.cell? (ad.add j) = some z) → ∃ v' w', (execOp ρ o).run Try.prog w = .ok (.value v') w' ∧ Appd w w' 3 1 v v' (n + ks.length) (xs ++ numv ks) := fun ad c e hc =>
    exec_append (news := numv ks) Try.underlying40 infNum rfl (by decide) ho hx hv (hy.trans e) (by simp [numv]) hc (fun z hz => by obtain ⟨k, -, rfl⟩ := List.mem_map.1 hz; rfl) hn (by decide)
  obtain ⟨h1, h2, ⟨rfl, e | ⟨a, cap, e⟩⟩ | ⟨h0, b, off, cap, e, hcap, hb, hc⟩⟩ := hu
  · obtain ⟨i0, hi, hz0, hz1, hz2⟩ := info_parts infNum
    have hrun := run_append_owned_none (P := Try.prog) w 0 40 o.type 3 i0 1 Try.underlying40 hi v n xs hv
    refine ⟨v, w, ?_, ⟨by simpa [numv] using hv, But.refl _ _, .inl rfl, fun k hk => ?_⟩⟩
    · unfold execOp
      simp only [ho, resolve, invoke, builtin, Sem.run_bind, Sem.run_pure, Result.andThen_ok, List.map_toArray, List.map_cons, List.map_nil, hx, hy, e, hrun]
    · obtain ⟨-, ⟨rfl, -⟩ | ⟨g, c, cu, rfl, -, hb, -⟩⟩ := hv
      · cases hk
      · cases hk; exact lt_of_block hb
  · exact key a cap e (fun j z hz => by simp [numv] at hz)
  · refine key ⟨b, off, none⟩ cap e (fun j z hz => ?_)
    have hj : j < ks.length := by
      rcases Nat.lt_or_ge j ks.length with h | h
      · exact h
      · rw [List.getElem?_eq_none (by simpa [numv] using h)] at hz; cases hz
    rw [addr_add, hc j hj, ← hz]
    simp [numv, hj]
/-- An own row of numbers, cut in two. -/
theorem nums_cut {w : World} {v : Value} {ks : List Int} (h : w.ownsRow 0 3 1 v ks.length (numv ks)) (hi : ∀ x ∈ ks, -9223372036854775808 ≤ x ∧ x ≤ 9223372036854775807) (hl : ks.length ≤ 1000000) {a : Nat} (ha : a ≤ ks.length) :
    ∃ lo hi', (∀ w0 : World, (Instr.sliceAt 40 v none (some (.int .i64 (a : Int))) none).run Try.prog w0 = .ok lo w0) ∧ (∀ w0 : World, (Instr.sliceAt 40 v (some (.int .i64 (a : Int))) none none).run Try.prog w0 = .ok hi' w0) ∧ Nums w lo (ks.take a) ∧ Nums w hi' (ks.drop a) := by
  have hcells := h
  obtain ⟨h1, ⟨rfl, h0⟩ | ⟨g, cap, cur, rfl, hg, hh, hcap, hm, r⟩⟩ := h
  · have hk : ks = [] := List.eq_nil_of_length_eq_zero h0
    subst hk
    obtain rfl : a = 0 := by simpa using ha
    refine ⟨.slice none 0 0, .slice none 0 0, fun w0 => by kernel_rfl, fun w0 => by kernel_rfl, ⟨(fun x hx => by simp at hx), by simp, .inl ⟨rfl, .inl rfl⟩⟩, ⟨(fun x hx => by simp at hx), by simp, .inl ⟨rfl, .inl rfl⟩⟩⟩
  · obtain ⟨A, c, hcut, hA, hcc⟩ := cut_from (T := 40) (e := 3) (sz := 1) i64slice (by kernel_rfl) (fun w0 => by kernel_rfl) (b := g) (n := ks.length) (cap := cap) (k := a) ha hcap
    have hcell : ∀ i, i < ks.length → w.cell? ⟨g, i, none⟩ = some (.int .i64 (ks.getD i 0)) := fun i hi => by
      have h2 := hcells.cells (g := g) rfl i (.int .i64 (ks.getD i 0)) (by simp [numv, hi])
      have e : (⟨g, 0, none⟩ : Addr).add i = ⟨g, 0 + i, none⟩ := addr_add g 0 i
      rw [e, Nat.zero_add] at h2
      exact h2
    refine ⟨.slice (some ⟨g, 0, none⟩) a cap, _, fun w0 => ?_, hcut, ⟨fun x hx => hi x (List.mem_of_mem_take hx), by rw [List.length_take]; omega, ?_⟩, ⟨fun x hx => hi x (List.mem_of_mem_drop hx), by rw [List.length_drop]; omega, ?_⟩⟩
    · rw [run_sliceAt_slice _ _ _ _ _ _ i64slice, run_slice_h w0 _ _ _ _ i64slice .i64 (a : Int) (by omega) (by omega), show Try.prog.elem 40 = 3 by kernel_rfl, show (sizeOf 3).run Try.prog w0 = .ok 1 w0 by kernel_rfl]
      simp [sliced, Result.andThen, Addr.add]
    · by_cases h0 : a = 0
      · subst h0
        exact .inl ⟨by simp, .inr ⟨_, _, rfl⟩⟩
      · refine .inr ⟨by rw [List.length_take]; omega, g, 0, cap, by rw [List.length_take, Nat.min_eq_left ha], by rw [List.length_take]; omega, lt_of_block hh, fun i hi => ?_⟩
        rw [List.length_take] at hi
        rw [Nat.zero_add, hcell i (by omega), List.getD_eq_getElem?_getD, List.getD_eq_getElem?_getD, List.getElem?_take, if_pos (by omega)]
    · by_cases h0 : a < ks.length
      · rw [hA h0]
        refine .inr ⟨by rw [List.length_drop]; omega, g, a * 1, c, by rw [List.length_drop], ?_, lt_of_block hh, fun i hi => ?_⟩
        · rw [List.length_drop]; omega
        · rw [List.length_drop] at hi
          rw [Nat.mul_one, hcell (a + i) (by omega), List.getD_eq_getElem?_getD, List.getD_eq_getElem?_getD, List.getElem?_drop]
      · rw [show ks.length - a = 0 by omega]
        exact .inl ⟨by rw [List.drop_eq_nil_iff]; omega, .inr ⟨_, _, rfl⟩⟩
set_option maxRecDepth 100000 in
set_option maxHeartbeats 1000000 in
theorem sameints_any {w : World} {v u : Value} {xs ys : List Int} (hv : Nums w v xs) (hu : Nums w u ys) : Calls Try.prog 40 #[v, u] w fun e w' => e = .returned (.bool (decide (xs = ys))) ∧ Grow w w' := by
  obtain ⟨a1, c1, rfl⟩ := hv.len
  obtain ⟨a2, c2, rfl⟩ := hu.len
  have HV := Hid.mk' hv
  have HU := Hid.mk' hu
  obtain ⟨n, hn⟩ : ∃ n, n = xs.length := ⟨_, rfl⟩
  obtain ⟨m, hm⟩ : ∃ m, m = ys.length := ⟨_, rfl⟩
  have hnb : (n : Int) ≤ 140737488355328 := by have := hv.2.1; omega
  rw [← hn] at HV ⊢
  rw [← hm] at HU ⊢
  have HN := Hid.mk' hn
  have HM := Hid.mk' hm
  obtain ⟨eb, heb⟩ : ∃ eb, eb = decide (xs = ys) := ⟨_, rfl⟩
  rw [← heb]
  have HEB := Hid.mk' heb
  clear hv hu hn hm heb
  by_cases hnm : n = m
  · subst hnm
    go_enter Try.func40, Try.ntmps40
    go_wp2
    go_loopw [5] (fun iv wr => ∃ i : Nat, i ≤ n ∧ iv = .int .i64 i ∧ (∀ j, j < i → xs.getD j 0 = ys.getD j 0) ∧ Grow w wr) (fun iv _ => n - (intOf iv).toNat)
    case atStart => exact ⟨0, Nat.zero_le _, rfl, fun j hj => absurd hj (by omega), But.refl _ _⟩
    case round =>
      obtain ⟨i, hin, rfl, hne, hg⟩ := hrel
      have HNE := Hid.mk' hne
      have HG := Hid.mk' hg
      clear hne hg
      by_cases hlt : i < n
      · have hlti : (i : Int) < (n : Int) := by omega
        obtain ⟨b1, o1, k1, e1, -, -, hc1⟩ := HV.out.at (by have := HN.out; omega)
        obtain ⟨b2, o2, k2, e2, -, -, hc2⟩ := HU.out.at (by have := HM.out; omega)
        simp only [Value.slice.injEq] at e1 e2
        obtain ⟨rfl, -, rfl⟩ := e1
        obtain ⟨rfl, -, rfl⟩ := e2
        have HC1 := Hid.mk' (hc1 i (by have := HN.out; omega))
        have HC2 := Hid.mk' (hc2 i (by have := HM.out; omega))
        obtain ⟨x, hx⟩ : ∃ x, x = xs.getD i 0 := ⟨_, rfl⟩
        obtain ⟨y, hy⟩ : ∃ y, y = ys.getD i 0 := ⟨_, rfl⟩
        rw [← hx] at HC1
        rw [← hy] at HC2
        have HX := Hid.mk' hx
        have HY := Hid.mk' hy
        clear hc1 hc2 hx hy
        go_upto_region 6 with fail
        refine region_chain [] [0, 1, 2, 3, 4, 5, 6, 7, 8] (Grow w) (Grow w) (by kernel_rfl) (by kernel_rfl) (fun _ _ h k => h.trans k) (fun _ h => h) (HG.out.drew) ?_
        intro ι hne X hX
        have d0 : ∀ z, (X z).cell? ⟨b1, o1 + i, none⟩ = some (.int .i64 x) := fun z => grow_cell (hX z) HC1.out
        have d1 : ∀ z, (X z).cell? ⟨b2, o2 + i, none⟩ = some (.int .i64 y) := fun z => grow_cell (hX z) HC2.out
        iterate 9 (refine still_step rfl (fun K hK => ?_); go_simp; refine hK _ ?_; clear hK K)
        refine still_nil ?_
        clear hX hne d0 d1
        intro w2 hw2
        have HW2 := Hid.mk' hw2
        clear hw2 HC1 HC2
        by_cases hxy : x = y
        · have hxb : (x != y) = false := by simpa using hxy
          have HST : Hid (∀ j, j < i + 1 → xs.getD j 0 = ys.getD j 0) := fun j hj => by
            by_cases e : j = i
            · rw [e, ← HX.out, ← HY.out, hxy]
            · exact HNE.out j (by omega)
          clear hxy
          go_wp2
          exact ⟨⟨i + 1, by omega, by go_num, HST.out, HW2.out⟩, by simp [intOf]; omega⟩
        · have hxb : (x != y) = true := by simpa using hxy
          have HF : Hid (eb = false) := by
            show _ = _
            rw [HEB.out]
            refine decide_eq_false (fun e => hxy ?_)
            rw [HX.out, HY.out, e]
          clear hxy
          go_wp2
          go_ret
          exact ⟨congrArg (fun b => Ending.returned (.bool b)) HF.out.symm, HW2.out⟩
      · have hlti : ¬ ((i : Int) < (n : Int)) := by omega
        have HT : Hid (eb = true) := by
          show _ = _
          rw [HEB.out]
          refine decide_eq_true (List.ext_getElem? (fun j => ?_))
          have hlx := HN.out
          have hly := HM.out
          by_cases hj : j < n
          · have := HNE.out j (by omega)
            rw [List.getD_eq_getElem?_getD, List.getD_eq_getElem?_getD, List.getElem?_eq_getElem (by omega), List.getElem?_eq_getElem (by omega)] at this
            rw [List.getElem?_eq_getElem (by omega), List.getElem?_eq_getElem (by omega)]
            simpa using this
          · rw [List.getElem?_eq_none (by omega), List.getElem?_eq_none (by omega)]
        go_wp2
        go_ret
        exact ⟨congrArg (fun b => Ending.returned (.bool b)) HT.out.symm, HG.out⟩
  · have hnb : ((n : Int) != (m : Int)) = true := by
      have : (n : Int) ≠ (m : Int) := by omega
      simpa using this
    have HF : Hid (eb = false) := by
      show _ = _
      rw [HEB.out]
      refine decide_eq_false (fun e => hnm ?_)
      rw [HN.out, HM.out, e]
    clear hnm
    go_enter Try.func40, Try.ntmps40
    go_wp2
    go_ret
    exact ⟨congrArg (fun b => Ending.returned (.bool b)) HF.out.symm, But.refl _ _⟩
end Go.Proofs.Ytmlklmhochihbaa
/- The reference's frames: New, Victim. -/
namespace Go.Proofs.Ytmlklmhochihbaa
open Go.RowKit

section
variable {w w' w1 : World} {ro ro1 : Owner} {gx : Nat} {vl vp vs vh v' : Value} {FL FL' : List FrV} {s s' : St} {R : Nat → Prop}
theorem bld_ht (w : World) : (Instr.build 70 #[(0, .int .i64 16)]).run Try.prog w = .ok (.agg #[.int .i64 16, .int .i64 0, .slice none 0 0]) w := run_build w _ _ _ (by kernel_rfl)
theorem bld_rx (n : Int) (w : World) : (Instr.build 72 #[(0, .int .i64 n), (4, .agg #[.int .i64 16, .int .i64 0, .slice none 0 0])]).run Try.prog w = .ok (.agg #[.int .i64 n, .slice none 0 0, .slice none 0 0, .slice none 0 0, .int .i64 16, .int .i64 0, .slice none 0 0]) w := run_build w _ _ _ (by kernel_rfl)
def roN (g : Nat) : Owner := fun b => if b = g then .dev else .none
set_option maxRecDepth 100000 in
set_option maxHeartbeats 1000000 in
theorem rxnew_any (w : World) (n : Nat) (h1 : 1 ≤ n) (h2 : n ≤ 1024) : Calls Try.prog 29 #[.int .i64 (n : Int)] w fun e w' => e = .returned (ptr w.heap.size) ∧ Rx w' (roN w.heap.size) w.heap.size (St.new n) ∧ Grow w w' := by
  have a1 : ¬ ((n : Int) < 1) := by omega
  have a2 : ¬ (1024 < (n : Int)) := by omega
  have HG : Hid (Grow w (w.alloc (.cells #[.int .i64 (n : Int), .slice none 0 0, .slice none 0 0, .slice none 0 0, .int .i64 16, .int .i64 0, .slice none 0 0] 72))) := (But.refl _ w).alloc _
  have HB : Hid (Blk (w.alloc (.cells #[.int .i64 (n : Int), .slice none 0 0, .slice none 0 0, .slice none 0 0, .int .i64 16, .int .i64 0, .slice none 0 0] 72)) w.heap.size 72 [.int .i64 (n : Int), .slice none 0 0, .slice none 0 0, .slice none 0 0, .int .i64 16, .int .i64 0, .slice none 0 0]) := Blk.new (L := [.int .i64 (n : Int), .slice none 0 0, .slice none 0 0, .slice none 0 0, .int .i64 16, .int .i64 0, .slice none 0 0]) rfl
  have HS := Hid.mk' (Sok.new h1 h2)
  clear h1 h2
  go_enter Try.func29, Try.ntmps29
  go_wp2_with (first
    | (refine wpList_build_run rfl _ [_] rfl [(0, .int .i64 16)] rfl _ (bld_ht _) ?_)
    | (refine wpList_build_run rfl _ [_, _] rfl [(0, .int .i64 (n : Int)), (4, .agg #[.int .i64 16, .int .i64 0, .slice none 0 0])] rfl _ (bld_rx n _) ?_)
    | fail)
  go_ret
  refine ⟨rfl, ⟨_, _, _, _, [], ⟨⟨HB.out, RowOf.nil _ _ _ _, by decide, by decide, Nat.zero_le _, Nat.le_refl _, fun e he => absurd he List.not_mem_nil⟩, RowOf.nil _ _ _ _, rfl, fun e he => absurd he List.not_mem_nil, RowOf.nil _ _ _ _, RowOf.nil _ _ _ _, (fun k hk => by cases hk), by unfold roN; rw [if_pos rfl], HS.out, Nat.zero_le _, fun b hb => ?_⟩⟩, HG.out⟩
  have := HB.out.lt
  unfold roN
  rw [if_neg (by omega)]
set_option maxRecDepth 100000 in
set_option maxHeartbeats 4000000 in
theorem rxvictim_any (h : Rx w ro gx s) : Calls Try.prog 38 #[ptr gx] w fun e w' => e = .returned (.tuple #[.int .i64 s.vic, .int .i64 s.vicc]) ∧ Grow w w' := by
  have HX := Hid.mk' h
  obtain ⟨vl, vp, vs, vh, FL, h⟩ := h
  have HH := Hid.mk' h
  obtain ⟨n, hn⟩ : ∃ n, n = FL.length := ⟨_, rfl⟩
  obtain ⟨ao, cap, e, -⟩ := h.rl.shape
  rw [← hn] at e
  subst e
  obtain ⟨M, hM⟩ : ∃ M, M = s.most := ⟨_, rfl⟩
  have hbk := h.ht.blk
  rw [← hM] at hbk
  have HBK := Hid.mk' hbk
  have HN := Hid.mk' hn
  have hnb : (n : Int) ≤ 1024 := by have := h.small.1; omega
  have hkl : s.keys.length = n := by unfold St.keys; rw [List.length_map, hn, h.lenL]
  have HKL := Hid.mk' hkl
  have hlf : s.fr.length = n := by rw [hn, h.lenL]
  by_cases hlt : n < M
  · have hlti : (n : Int) < (M : Int) := by omega
    have hc : s.vicc = 5 ∧ s.vic = 0 := by unfold St.vicc St.vic; rw [if_pos (by omega), if_pos (by omega)]; exact ⟨rfl, rfl⟩
    rw [hc.1, hc.2]
    clear h hn hM hbk hkl hlf hc hlt
    go_enter Try.func38, Try.ntmps38
    go_upto_region 1 with fail
    refine region_chain [] [0, 1, 2, 3, 4, 5, 6, 7, 8, 9] (Grow w) (Grow w) (by kernel_rfl) (by kernel_rfl) (fun _ _ h k => h.trans k) (fun _ h => h) ((But.refl _ w).drew) ?_
    intro ι hne X hX
    have d0 : ∀ x, (X x).cell? ⟨gx, 0, none⟩ = some (.int .i64 (M : Int)) := fun x => (HBK.out.but (hX x) (fun h => h)).cell 0
    have d1 : ∀ x, (X x).cell? ⟨gx, 1, none⟩ = some (.slice ao n cap) := fun x => (HBK.out.but (hX x) (fun h => h)).cell 1
    iterate 10 (refine still_step rfl (fun K hK => ?_); go_simp; refine hK _ ?_; clear hK K)
    refine still_nil ?_
    clear hX hne d0 d1
    intro w2 hw2
    have HW2 := Hid.mk' hw2
    clear hw2
    go_wp2
    exact bodyPost_ret (results_tmp2 rfl _ _ _) rfl ⟨rfl, HW2.out⟩
  · have hlti : ¬ ((n : Int) < (M : Int)) := by omega
    have HV2 : Hid (s.vicc = (if s.loose = [] then 12 else 0) ∧ s.vic = (if s.loose = [] then 0 else coldest s.heat s.loose)) := by
      show _ ∧ _
      unfold St.vicc St.vic
      have hq : ¬ (s.fr.length < s.most) := by omega
      rw [if_neg hq, if_neg hq]
      exact ⟨rfl, rfl⟩
    clear h hn hM hbk hkl hlf hlt
    go_enter Try.func38, Try.ntmps38
    go_upto_region 1 with fail
    refine region_chain [] [0, 1, 2, 3, 4, 5, 6, 7, 8, 9] (Grow w) (Grow w) (by kernel_rfl) (by kernel_rfl) (fun _ _ h k => h.trans k) (fun _ h => h) ((But.refl _ w).drew) ?_
    intro ι hne X hX
    have d0 : ∀ x, (X x).cell? ⟨gx, 0, none⟩ = some (.int .i64 (M : Int)) := fun x => (HBK.out.but (hX x) (fun h => h)).cell 0
    have d1 : ∀ x, (X x).cell? ⟨gx, 1, none⟩ = some (.slice ao n cap) := fun x => (HBK.out.but (hX x) (fun h => h)).cell 1
    iterate 10 (refine still_step rfl (fun K hK => ?_); go_simp; refine hK _ ?_; clear hK K)
    refine still_nil ?_
    clear hX hne d0 d1
    intro w1 hw1
    have HG1 := Hid.mk' hw1
    clear hw1
    go_wp2
    go_loopw [4, 5] (fun rv iv wr => ∃ (i : Nat) (r : Value), i ≤ n ∧ iv = .int .i64 i ∧ r = rv ∧ wr.ownsRow 0 3 1 r ((s.keys.take i).filter (fun k => !s.pinned k)).length (numv ((s.keys.take i).filter (fun k => !s.pinned k))) ∧ (∀ k, r.ownBlock = some k → w.heap.size ≤ k) ∧ Grow w wr) (fun _ iv _ => n - (intOf iv).toNat)
    case atStart => exact ⟨0, _, Nat.zero_le _, rfl, rfl, World.ownsRow_nil _ _ _ _, (fun k hk => by cases hk), HG1.out⟩
    case round =>
      rename_i rv
      clear HG1
      obtain ⟨i, r, hin, rfl, rfl, hT, hV, hG⟩ := hrel
      have hbk := HBK.out.but hG (fun h => h)
      have c1 : wr.cell? ⟨gx, 1, none⟩ = some (.slice ao n cap) := hbk.cell 1
      have HT := Hid.mk' hT
      have HV := Hid.mk' hV
      have HG := Hid.mk' hG
      obtain ⟨ra, rc, hr⟩ := own_sl hT
      by_cases hlt : i < n
      · have hlt2 : (i : Int) < (n : Int) := by omega
        obtain ⟨⟨⟨q, qb, qw⟩, qv⟩, hq⟩ : ∃ e, FL[i]? = some e := ⟨_, List.getElem?_eq_getElem (by have := HN.out; omega)⟩
        obtain ⟨g, cp, e1, -, hcell⟩ := (HH.out.grow hG).rl.cellAt (fun e _ => fxc_len e) hq
        simp only [Value.slice.injEq] at e1
        obtain ⟨rfl, -, rfl⟩ := e1
        have c3 : wr.cell? ⟨g, i * 3, none⟩ = some (.int .i64 q) := hcell 0 _ rfl
        have hki : s.keys[i]? = some q := by
          unfold St.keys
          rw [← HH.out.fl, List.getElem?_map, List.getElem?_map, hq]
          rfl
        have HNX : Hid ((s.keys.take (i + 1)).filter (fun k => !s.pinned k) = (s.keys.take i).filter (fun k => !s.pinned k) ++ (if s.pinned q then [] else [q])) := by
          show _ = _
          have h3 := List.getElem?_eq_some_iff.1 hki
          rw [List.take_succ_eq_append_getElem h3.1, List.filter_append, h3.2]
          congr 1
          rw [List.filter_cons]
          cases s.pinned q <;> rfl
        have HP := Hid.mk' (rxpinned_any (HX.out.grow hG) q)
        have HFL : Hid (((s.keys.take i).filter (fun k => !s.pinned k)).length ≤ 1024) := by
          show _ ≤ _
          have := List.length_filter_le (fun k => !s.pinned k) (s.keys.take i)
          rw [List.length_take] at this
          omega
        generalize (s.keys.take i).filter (fun k => !s.pinned k) = F at *
        clear hT hV hG hcell hq hki hbk hr
        cases hp : s.pinned q with
        | true =>
          rw [hp] at HP HNX
          have HN2 : Hid ((s.keys.take (i + 1)).filter (fun k => !s.pinned k) = F) := by show _ = _; rw [HNX.out, if_pos rfl, List.append_nil]
          clear hp HNX
          go_wp2_with fail
          refine Calls.mono HP.out ?_
          rintro e w' ⟨rfl, hw⟩
          have h2 := hw.symm
          subst h2
          clear hw
          go_wp2
          exact ⟨⟨i + 1, r, by omega, by go_num, rfl, by rw [HN2.out]; exact HT.out, HV.out, HG.out⟩, by simp [intOf]; omega⟩
        | false =>
          rw [hp] at HP HNX
          have HN2 : Hid ((s.keys.take (i + 1)).filter (fun k => !s.pinned k) = F ++ [q]) := by show _ = _; rw [HNX.out]; rfl
          have HAL : Hid (Grow wr (wr.alloc (.cells #[.int .i64 q] 3))) := (But.refl _ wr).alloc _
          have HBL : Hid (Blk (wr.alloc (.cells #[.int .i64 q] 3)) wr.heap.size 3 (numv [q])) := Blk.new (L := numv [q]) rfl
          clear hp HNX
          go_wp2_with fail
          refine Calls.mono HP.out ?_
          rintro e w' ⟨rfl, hw⟩
          have h2 := hw.symm
          subst h2
          clear hw
          go_wp2_with (first
            | (refine wpList_runH rfl (exec_row1 Try.underlying40 infNum (by decide) (by decide) rfl rfl rfl) ?_)
            | (refine wpList_someH rfl (exec_append (v := r) (n := F.length) (xs := numv F) (news := numv [q]) Try.underlying40 infNum rfl (by decide) rfl rfl (ownsRow_grow HT.out HAL.out) rfl rfl (fun j u hj => HBL.out.cells0 j u hj) (fun u hu => by rw [show u = .int .i64 q by simpa [numv] using hu]; rfl) (by have := HFL.out; omega) (by decide)) ?_; intro v4 w4 hap)
            | fail)
          refine ⟨⟨i + 1, v4, by omega, by go_num, rfl, ?_, fun k hk => ?_, ?_⟩, by simp [intOf]; omega⟩
          · rw [HN2.out, List.length_append, List.length_singleton, show numv (F ++ [q]) = numv F ++ numv [q] by simp [numv]]
            exact hap.own
          · rcases hap.at' with e | e
            · exact HV.out k (by rw [← e]; exact hk)
            · rw [e] at hk
              have := Option.some.inj hk
              have := HG.out.size
              have := HAL.out.size
              omega
          · exact (HG.out.trans HAL.out).then hap.but (fun b hb e => by have := HV.out b e; omega)
      · have hlt2 : ¬ ((i : Int) < (n : Int)) := by omega
        have hL : (s.keys.take i).filter (fun k => !s.pinned k) = s.loose := by rw [List.take_of_length_le (by have := HKL.out; omega)]; rfl
        rw [hL] at hT hr
        have hN : Nums wr r s.loose := Nums.ofRow hT (fun x hx => by
          unfold St.loose St.keys at hx
          obtain ⟨e, he, rfl⟩ := List.mem_map.1 (List.mem_filter.1 hx).1
          exact (HH.out.ok.ik e he).1) (by
          unfold St.loose
          have := List.length_filter_le (fun k => !s.pinned k) s.keys
          have := HKL.out
          omega)
        have HO := Hid.mk' (frofs_any (HH.out.grow hG).ht)
        have HNU := Hid.mk' hN
        by_cases h0 : s.loose = []
        · rw [if_pos h0, if_pos h0] at HV2
          rw [h0] at hr
          subst hr
          have HC := Hid.mk' (rcoldest_none wr (.pointer (some ⟨gx, 4, none⟩)) (.slice ra 0 rc) ⟨_, _, rfl⟩)
          clear hT hV hG hbk hL hN h0 HT HV HO HNU
          go_wp2_with fail
          refine Calls.mono HC.out ?_
          rintro e w4 ⟨rfl, hw⟩
          have h4 := hw.symm
          subst h4
          clear hw
          go_wp2
          exact bodyPost_ret (results_tmp2 rfl _ _ _) rfl ⟨by rw [HV2.out.1, HV2.out.2]; rfl, HG.out⟩
        · rw [if_neg h0, if_neg h0] at HV2
          have HC := Hid.mk' (rcoldest_some HO.out HNU.out (by cases hc : s.loose with | nil => exact absurd hc h0 | cons a l => simp))
          have HE : Hid (coldest (hof 16 s.now (look s.hl)) s.loose = s.vic ∧ s.vicc = 0) := ⟨HV2.out.2.symm, HV2.out.1⟩
          obtain ⟨kk, hkk⟩ : ∃ kk, kk = coldest (hof 16 s.now (look s.hl)) s.loose := ⟨_, rfl⟩
          rw [← hkk] at HC HE
          generalize hll : s.loose.length = ll at *
          subst hr
          clear hT hV hG hbk hL hN h0 HT HV HO HNU hkk HV2
          go_wp2_with fail
          refine Calls.mono HC.out ?_
          rintro e w4 ⟨rfl, hg4⟩
          have HG4 := Hid.mk' (HG.out.trans hg4)
          clear hg4
          go_wp2
          exact bodyPost_ret (results_tmp2 rfl _ _ _) rfl ⟨by rw [← HE.out.1, HE.out.2]; rfl, HG4.out⟩
end
end Go.Proofs.Ytmlklmhochihbaa
/- frames: Pin. -/
namespace Go.Proofs.Ytmlklmhochihbaa
open Go.RowKit Go.Maps

theorem exec_ldF {w : World} {o : Oper} {ρ : Operand → Value} {T : TypeId} {d : TypeDesc} (hu : Try.prog.underlying T = some d) (hd : (match d with | .struct _ | .array _ _ => true | _ => false) = true) {cs : List Value} (hi : (Try.prog.info? T).map (·.size) = some cs.length) {x : Operand} {ad : Addr} (hc : ∀ j u, cs[j]? = some u → w.cell? (ad.add j) = some u)
    (ho : o.op = .load T x) (hx : ρ x = .pointer (some ad)) : (execOp ρ o).run Try.prog w = .ok (.value (.agg cs.toArray)) w := by
  have h := run_loadVar_cells w ad T cs _ hc hu hd hi
  unfold execOp
  simp only [ho, hx, Instr.loadAt, Instr.sureAddr, Sem.run_bind, Sem.run_pure, Result.andThen_ok, h]
theorem exec_allocF {w : World} {o : Oper} {ρ : Operand → Value} {T : TypeId} {Z : Array Value} (ho : o.op = .alloc T) (hz : (zeroValue T).run Try.prog w = .ok (.agg Z) w) : (execOp ρ o).run Try.prog w = .ok (.value (.pointer (some ⟨w.heap.size, 0, none⟩))) (w.alloc (.cells Z T)) := by
  simp [execOp, ho, go_sem, hz]
/-- A store of nothing. -/
theorem exec_store0 {w : World} {o : Oper} {ρ : Operand → Value} {T : TypeId} (hi : (Try.prog.info? T).map (·.size) = some 0) {x y : Operand} {ad : Addr} (ho : o.op = .store T x y) (hx : ρ x = .pointer (some ad)) (hy : ρ y = .agg #[]) : (execOp ρ o).run Try.prog w = .ok .skip w := by
  cases hq : Try.prog.info? T with
  | none => simp [hq] at hi
  | some i =>
    have hs : i.size = 0 := by simpa [hq] using hi
    unfold execOp
    simp [ho, hx, hy, Instr.storeAt, Instr.sureAddr, storeVar, sizeOf, typeInfo, hq, Value.cells, hs, storeCells, Result.andThen]
theorem iUnit : (Try.prog.info? 97).map (·.size) = some 0 := by kernel_rfl
theorem zUnit (w : World) : (zeroValue 97).run Try.prog w = .ok unitV w := by kernel_rfl
theorem iPin : (Try.prog.info? 96).map (·.size) = some 2 := by kernel_rfl
theorem zPin (w : World) : (zeroValue 96).run Try.prog w = .ok (.agg #[.int .i64 0, .int .i64 0]) w := by kernel_rfl
theorem bld_pin (a b : Int) (w : World) : (Instr.build 96 #[(0, .int .i64 a), (1, .int .i64 b)]).run Try.prog w = .ok (pinV (a, b)) w := run_build w _ _ _ (by kernel_rfl)
theorem bld_unit (w : World) : (Instr.build 97 #[]).run Try.prog w = .ok unitV w := by kernel_rfl
theorem fpin_nil (w : World) (t K : Int) : Calls Try.prog 23 #[.pointer none, .int .i64 t, .int .i64 K] w fun e w' => e = .returned (.int .i64 5) ∧ w' = w := by
  go_enter Try.func23, Try.ntmps23
  go_wp2_with fail
  refine Calls.mono (find_nil w K) ?_
  rintro e w' ⟨rfl, rfl⟩
  go_wp2
  go_ret
  exact ⟨rfl, rfl⟩
section
variable {w w' : World} {own own' : Owner} {gt gr gf gp gh gm : Nat} {fb : Int → Nat} {PL : List (Int × Int)} {s s' : St} {R : Nat → Prop}
theorem fpin_not (h : Ft w own gt s) {t K : Int} (hK : i64 K) (hh : s.has K = false) : Calls Try.prog 23 #[ptr gt, .int .i64 t, .int .i64 K] w fun e w' => e = .returned (.int .i64 5) ∧ w' = w := by
  obtain ⟨gr, gf, gp, gh, gm, fb, PL, h⟩ := h
  have HF := Hid.mk' (find_not h hK hh)
  clear h hK hh
  go_enter Try.func23, Try.ntmps23
  go_wp2_with fail
  refine Calls.mono HF.out ?_
  rintro e w' ⟨rfl, rfl⟩
  go_wp2
  go_ret
  exact ⟨rfl, rfl⟩
theorem Fm.pinLook (h : Fm w own gt gr gf gp gh gm fb PL s) {p : Int × Int} (h1 : i64 p.1) (h2 : i64 p.2) : (Instr.lookup 83 (.map (some gp)) (pinV p) true).run Try.prog w = .ok (.tuple #[unitV, .bool (decide (p ∈ PL))]) w := by
  obtain ⟨l, hl⟩ := keyOfPin h1 h2
  have hk := h.pin.look (t := 83) (et := 97) keyPin Try.underlying83 zUnit hl true
  by_cases hp : p ∈ PL
  · rw [decide_eq_true hp]
    exact hk.1 p hp rfl
  · rw [decide_eq_false hp]
    exact hk.2 (fun x hx e => hp (by rw [← pinV_inj e]; exact hx))
/-- A task pins a key. -/
theorem Fm.pinUp {w1 : World} (h : Fm w own gt gr gf gp gh gm fb PL s) {t : Int} {e0 : FrE} (he0 : e0 ∈ s.fr) (ht : i64 t) (hn : (t, e0.1) ∉ PL) (hpl : s.pins.length < 100000) (k : But (· = gp) w w1) (hm : MapOf 96 w1 gp pinV (fun _ => unitV) (PL ++ [(t, e0.1)])) :
    FtTo w own gt (s.pin t e0.1) (w1.setCell ⟨fb e0.1, 2, none⟩ (.int .i64 ((cnt PL e0.1 + 1 : Nat) : Int))) := by
  have hh : s.has e0.1 = true := St.has_iff.2 ⟨e0, he0, rfl⟩
  have e1 : s.pin t e0.1 = { s with pins := s.pins ++ [(t, e0.1)] } := by unfold St.pin; rw [if_pos hh]
  have hok := h.ok.pin (t := t) (k := e0.1) ht (h.ok.ik e0 he0).1
  rw [e1] at hok ⊢
  obtain ⟨v0, hb0, hv0⟩ := h.each e0 he0
  have k2 := But.set1 w1 (fb e0.1) 2 (.int .i64 ((cnt PL e0.1 + 1 : Nat) : Int))
  have kk : But (fun b => b = gp ∨ b = fb e0.1) w (w1.setCell ⟨fb e0.1, 2, none⟩ (.int .i64 ((cnt PL e0.1 + 1 : Nat) : Int))) := (k.mono (fun _ _ e => .inl e)).trans (k2.mono (fun _ _ e => .inr e))
  have ne : ∀ b t, own b = t → t ≠ .wri → t ≠ tFr e0.1 → ¬ (b = gp ∨ b = fb e0.1) := fun b t e h1 h2 e2 => by
    rcases e2 with e2 | e2
    · rw [e2, h.ogp] at e; exact h1 e.symm
    · rw [e2, h.ofb e0 he0] at e; exact h2 e.symm
  have hgf : ¬ (gp = fb e0.1) := h.fbne he0 h.ogp (fun e => nomatch e)
  have hcc : ∀ j, cnt (PL ++ [(t, e0.1)]) j = cnt PL j + (if e0.1 = j then 1 else 0) := fun j => by
    rw [cnt_perm (List.perm_append_comm (l₁ := PL) (l₂ := [(t, e0.1)])) j]
    exact cnt_cons _ _ _
  refine Ft.one (PL := PL ++ [(t, e0.1)]) ⟨h.blk.but kk (ne _ _ h.ot (by decide) (fun e => nomatch e)), h.res.but kk (ne _ _ h.ort (by decide) (fun e => nomatch e)), h.frm.but kk (ne _ _ h.ogf (by decide) (fun e => nomatch e)), hm.but k2 hgf, ?_, fun x => ?_, fun e he => ?_,
    h.ht.but kk (ne _ _ h.ogh (by decide) (fun e => nomatch e)) (ne _ _ h.ogm (by decide) (fun e => nomatch e)), h.ot, h.ort, h.ogf, h.ogp, h.ogh, h.ogm, h.ofb, hok, ?_, h.top.grow kk.size⟩ (kk.mono (fun b _ e => ?_))
  · rw [List.nodup_append]
    exact ⟨h.pnd, by simp, fun a ha b hb e => hn (by rw [← show b = (t, e0.1) by simpa using hb, ← e]; exact ha)⟩
  · show x ∈ PL ++ [(t, e0.1)] ↔ x ∈ s.pins ++ [(t, e0.1)]
    rw [List.mem_append, List.mem_append, h.pmem x]
  · obtain ⟨v, h1, h2⟩ := h.each e he
    rw [hcc]
    by_cases hk : e0.1 = e.1
    · rw [if_pos hk, ← one_key h.ok.nd he0 he hk]
      refine ⟨v0, ?_, hv0.but kk (fun j hj => ne _ _ hj (fun e => nomatch e) (fun e => tFr_byt _ e.symm))⟩
      exact (hb0.but k (fun e => hgf e.symm)).set 2 _
    · rw [if_neg hk, Nat.add_zero]
      exact ⟨v, h1.but kk (ne _ _ (h.ofb e he) (fun e => nomatch e) (fun e2 => hk (tFr_inj e2).symm)), h2.but kk (fun j hj => ne _ _ hj (fun e => nomatch e) (fun e => tFr_byt _ e.symm))⟩
  · show (s.pins ++ [(t, e0.1)]).length ≤ _
    rw [List.length_append, List.length_singleton]; omega
  · rcases e with e | e
    · rw [e, Wr, h.ogp]; exact ⟨by decide, by decide⟩
    · rw [e]; exact h.wrF he0
theorem Fm.pinSame (h : Fm w own gt gr gf gp gh gm fb PL s) {t : Int} {e0 : FrE} (he0 : e0 ∈ s.fr) (ht : i64 t) (hn : (t, e0.1) ∈ PL) (hpl : s.pins.length < 100000) : Fm w own gt gr gf gp gh gm fb PL (s.pin t e0.1) := by
  have hh : s.has e0.1 = true := St.has_iff.2 ⟨e0, he0, rfl⟩
  have e1 : s.pin t e0.1 = { s with pins := s.pins ++ [(t, e0.1)] } := by unfold St.pin; rw [if_pos hh]
  have hok := h.ok.pin (t := t) (k := e0.1) ht (h.ok.ik e0 he0).1
  rw [e1] at hok ⊢
  refine ⟨h.blk, h.res, h.frm, h.pin, h.pnd, fun x => ?_, h.each, h.ht, h.ot, h.ort, h.ogf, h.ogp, h.ogh, h.ogm, h.ofb, hok, ?_, h.top⟩
  · show x ∈ PL ↔ x ∈ s.pins ++ [(t, e0.1)]
    rw [List.mem_append, ← h.pmem x]
    exact ⟨fun hx => .inl hx, fun hx => hx.elim id (fun hx => by rw [show x = (t, e0.1) by simpa using hx]; exact hn)⟩
  · show (s.pins ++ [(t, e0.1)]).length ≤ _
    rw [List.length_append, List.length_singleton]; omega
set_option maxRecDepth 100000 in
set_option maxHeartbeats 1000000 in
theorem fpin_has (h : Ft w own gt s) {t K : Int} (ht : i64 t) (hK : i64 K) (hh : s.has K = true) (hpl : s.pins.length < 100000) : Calls Try.prog 23 #[ptr gt, .int .i64 t, .int .i64 K] w fun e w' => e = .returned (.int .i64 0) ∧ FtTo w own gt (s.pin t K) w' := by
  obtain ⟨gr, gf, gp, gh, gm, fb, PL, h⟩ := h
  have HF := Hid.mk' (find_has h hK hh)
  have HH := Hid.mk' h
  have HTT := Hid.mk' ht
  have HKK := Hid.mk' hK
  have HPL := Hid.mk' hpl
  have HHH := Hid.mk' hh
  obtain ⟨gq, hgq⟩ : ∃ gq, gq = w.heap.size := ⟨_, rfl⟩
  have HGQ := Hid.mk' hgq
  have HG0 : Hid (Grow w (w.alloc (.cells #[.int .i64 0, .int .i64 0] 96))) := (But.refl _ w).alloc _
  have HB0 : Hid (Blk (w.alloc (.cells #[.int .i64 0, .int .i64 0] 96)) gq 96 [.int .i64 0, .int .i64 0]) := Blk.new (L := [.int .i64 0, .int .i64 0]) hgq.symm
  clear h ht hK hh hpl hgq
  go_enter Try.func23, Try.ntmps23
  go_wp2_with fail
  refine Calls.mono HF.out ?_
  rintro e w' ⟨rfl, hw⟩
  have h2 := hw.symm
  subst h2
  clear hw
  go_upto_region 5 with (first
    | (refine wpList_build_run rfl _ [_, _] rfl [(0, .int .i64 t), (1, .int .i64 K)] rfl _ (bld_pin t K _) ?_)
    | (refine wpList_store_at rfl _ _ _ rfl gq 0 [.int .i64 t, .int .i64 K] (by rw [HGQ.out]; rfl) rfl 96 [] [.int .i64 0, .int .i64 0] [] (by simpa using HB0.out) rfl rfl iPin (by intro v hv; rcases List.mem_cons.1 hv with rfl | hv; rfl; rcases List.mem_cons.1 hv with rfl | hv; rfl; cases hv) ?_; intro w1 hb1 hbut1; rw [List.nil_append, List.append_nil] at hb1)
    | fail)
  rw [← HGQ.out]
  have HG1 : Hid (Grow w w1) := HG0.out.then hbut1 (fun i hi e => by have := HGQ.out; omega)
  have HB1 := Hid.mk' hb1
  clear hb1 hbut1 HG0 HB0 HF
  obtain ⟨q, hq⟩ : ∃ q, q = decide ((t, K) ∈ PL) := ⟨_, rfl⟩
  have HQ := Hid.mk' hq
  have HLK : Hid (∀ w2, Grow w w2 → (Instr.lookup 83 (.map (some gp)) (pinV (t, K)) true).run Try.prog w2 = .ok (.tuple #[unitV, .bool q]) w2) := fun w2 k => by rw [hq]; exact (HH.out.grow k).pinLook (p := (t, K)) HTT.out HKK.out
  clear hq
  refine region_chain [([0, 1, 2, 3, 4, 5, 6, 7, 8], 9), ([], 10)] [11] (Grow w1) (Grow w1) (by kernel_rfl) (by kernel_rfl) (fun _ _ h k => h.trans k) (fun _ h => h) ((But.refl _ w1).drew) ?_
  intro ι hne X hX
  have d4 : ∀ x, (X x).cell? ⟨gt, 4, none⟩ = some (.map (some gp)) := fun x => ((HH.out.grow (HG1.out.trans (hX x))).blk).cell 4
  iterate 4 (refine still_step rfl (fun K hK => ?_); go_simp; refine hK _ ?_; clear hK K)
  refine still_val rfl (.agg #[.int .i64 t, .int .i64 K]) rfl (fun z => exec_ldF (cs := [.int .i64 t, .int .i64 K]) Try.underlying96 rfl iPin (HB1.out.but (hX z) (fun h => h)).cells0 rfl rfl) ?_
  intro K hK; go_simp; refine hK _ ?_; clear hK K
  refine still_val rfl (.tuple #[unitV, .bool q]) rfl (fun z => exec_lookup rfl rfl rfl (HLK.out _ (HG1.out.trans (hX z)))) ?_
  intro K hK; go_simp; refine hK _ ?_; clear hK K
  iterate 3 (refine still_step rfl (fun K hK => ?_); go_simp; refine hK _ ?_; clear hK K)
  refine still_nil ?_
  clear d4 hX hne X ι
  refine turn_run rfl rfl (fun v w' => Grow w1 w' ∧ ∃ g, v = ptr g) (fun _ w' => Grow w1 w') (fun _ _ _ h k => ⟨h.1.trans k, h.2⟩) (fun _ _ h => h.1) (.inr (fun _ _ h => h)) ?_ ?_
  · intro w4 h4
    exact ⟨_, _, .inl (exec_allocF rfl (zUnit w4)), h4.trans ((But.refl _ w4).alloc _), _, rfl⟩
  rintro v5 ⟨w5, -, g5, rfl⟩ Y hY
  go_simp
  refine hY _ ?_
  clear hY Y w5
  intro ι hne X hX
  refine still_nil ?_
  clear hX hne X ι
  refine turn_run rfl rfl (fun _ w' => Grow w1 w') (fun _ w' => Grow w1 w') (fun _ _ _ h k => h.trans k) (fun _ _ h => h) (.inr (fun _ _ h => h)) ?_ ?_
  · rintro w4 ⟨h4, -⟩
    exact ⟨undef, w4, .inr ⟨exec_store0 iUnit rfl rfl rfl, rfl⟩, h4⟩
  rintro v5 - Y hY
  go_simp
  refine hY _ ?_
  clear hY Y
  intro ι hne X hX
  iterate 1 (refine still_step rfl (fun K hK => ?_); go_simp; refine hK _ ?_; clear hK K)
  refine still_nil ?_
  clear hX hne
  intro w2 hw2
  have HG2 := Hid.mk' (HG1.out.trans hw2)
  have HB2 := Hid.mk' (HB1.out.but hw2 (fun h => h))
  clear hw2 HG1 HB1 HLK
  obtain ⟨e0, he0, hek⟩ := St.has_iff.1 HHH.out
  have HE0 := Hid.mk' he0
  have HEK := Hid.mk' hek
  clear he0 hek
  cases hq2 : q
  case true =>
    have hin : (t, K) ∈ PL := by
      have := HQ.out
      rw [hq2] at this
      exact of_decide_eq_true this.symm
    have HFIN : Hid (FtTo w own gt (s.pin t K) w2) := by
      have h1 := HEK.out
      have h3 := HH.out.pinSame HE0.out HTT.out (by rw [h1]; exact hin) HPL.out
      rw [h1] at h3
      exact Ft.same ⟨_, _, _, _, _, _, _, h3⟩ HG2.out
    clear hin hq2 HQ
    go_wp2
    go_ret
    exact ⟨rfl, HFIN.out⟩
  case false =>
    have hin : (t, K) ∉ PL := by
      have := HQ.out
      rw [hq2] at this
      exact of_decide_eq_false this.symm
    have HP2 : Hid (∀ w3, Grow w w3 → ∃ w4, (Instr.mapUpdate 83 (.map (some gp)) (pinV (t, K)) unitV).run Try.prog w3 = .ok () w4 ∧ ∀ w5, Grow w4 w5 → (∃ v m, Blk w5 (fb K) 89 (fcl v m (cnt PL K))) ∧ FtTo w own gt (s.pin t K) (w5.setCell ⟨fb K, 2, none⟩ (.int .i64 ((cnt PL K + 1 : Nat) : Int)))) := fun w3 k3 => by
      have h1 := HEK.out
      have h3 := HH.out.grow k3
      obtain ⟨l, hl⟩ := keyOfPin (p := (t, K)) HTT.out HKK.out
      obtain ⟨w4, hr, hm, hb, -⟩ := h3.pin.put (t := 83) (et := 97) keyPin Try.underlying83 (t, K) hl (fun y hy e => hin (by rw [← pinV_inj e]; exact hy))
      refine ⟨w4, hr, fun w5 k5 => ?_⟩
      have kb : But (· = gp) w3 w5 := hb.trans (k5.mono (fun _ _ h => h.elim))
      obtain ⟨v0, hb0, -⟩ := h3.each e0 HE0.out
      have hgf : ¬ (fb e0.1 = gp) := fun e => h3.fbne HE0.out h3.ogp (fun e => nomatch e) e.symm
      refine ⟨⟨v0, e0.2.2, ?_⟩, ?_⟩
      · have := hb0.but kb hgf
        rw [h1] at this
        exact this
      · have h4 := h3.pinUp HE0.out HTT.out (by rw [h1]; exact hin) HPL.out kb (by rw [h1]; exact hm.grow k5)
        rw [h1] at h4
        exact FtTo.then (Ext.refl _) (Fresh.refl _ _) (k3.mono (fun _ _ h => h.elim)) h4
    have hcl := HH.out.cl K
    generalize cnt PL K = c at *
    generalize fb K = g at *
    clear hin hq2 HQ
    go_upto_region 7 with fail
    refine region_chain [([0, 1, 2, 3, 4, 5], 6)] [] (Grow w2) (Grow w2) (by kernel_rfl) (by kernel_rfl) (fun _ _ h k => h.trans k) (fun _ h => h) ((But.refl _ w2).drew) ?_
    intro ι hne X hX
    have d4 : ∀ x, (X x).cell? ⟨gt, 4, none⟩ = some (.map (some gp)) := fun x => ((HH.out.grow (HG2.out.trans (hX x))).blk).cell 4
    iterate 4 (refine still_step rfl (fun K hK => ?_); go_simp; refine hK _ ?_; clear hK K)
    refine still_val rfl (.agg #[.int .i64 t, .int .i64 K]) rfl (fun z => exec_ldF (cs := [.int .i64 t, .int .i64 K]) Try.underlying96 rfl iPin (HB2.out.but (hX z) (fun h => h)).cells0 rfl rfl) ?_
    intro K hK; go_simp; refine hK _ ?_; clear hK K
    refine still_val rfl unitV rfl (fun z => exec_build _ [] rfl [] rfl _ (bld_unit _)) ?_
    intro K hK; go_simp; refine hK _ ?_; clear hK K
    refine still_nil ?_
    clear d4 hX hne X ι
    refine turn_run rfl rfl (fun _ w' => ∀ w5, Grow w' w5 → (∃ v m, Blk w5 g 89 (fcl v m c)) ∧ FtTo w own gt (s.pin t K) (w5.setCell ⟨g, 2, none⟩ (.int .i64 ((c + 1 : Nat) : Int)))) (fun _ _ => True) (fun _ _ _ h k w5 k5 => h w5 (k.trans k5)) (fun _ _ _ => trivial) (.inl (by kernel_rfl)) ?_ ?_
    · intro w4 h4
      obtain ⟨w5, hr, hk⟩ := HP2.out w4 (HG2.out.trans h4)
      exact turn_put rfl rfl rfl rfl hr hk
    rintro v5 - Y hY
    go_simp
    refine hY _ ?_
    clear hY Y
    intro ι hne X hX
    refine still_nil ?_
    clear hX hne
    intro w6 hw6
    obtain ⟨⟨v, m, hb6⟩, hf6⟩ := hw6 w6 (But.refl _ _)
    have HFIN := Hid.mk' hf6
    have c2 : w6.cell? ⟨g, 2, none⟩ = some (.int .i64 (c : Int)) := hb6.cell 2
    have f2 : w6.frozen? ⟨g, 2, none⟩ = false := hb6.free 2
    have hw1 : IntKind.i64.wrap ((c : Int) + 1) = ((c + 1 : Nat) : Int) := by have := wrapN (c + 1) (by omega); push_cast at this ⊢; exact this
    have e1 : (c : Int) + 1 = ((c + 1 : Nat) : Int) := by push_cast; rfl
    have e2 : ((c + 1 : Nat) : Int) ≤ 1000000 := by omega
    generalize c + 1 = c1 at *
    clear hw6 hf6 hb6 HP2 hcl
    go_wp2
    go_ret
    exact ⟨rfl, HFIN.out⟩
end
end Go.Proofs.Ytmlklmhochihbaa
/- frames: Free: its closure, and what the library makes of it. -/
namespace Go.Proofs.Ytmlklmhochihbaa
open Go.RowKit Go.Maps

section
variable {w w' : World} {own own' : Owner} {gt gr gf gp gh gm : Nat} {fb : Int → Nat} {PL : List (Int × Int)} {s s' : St} {R : Nat → Prop}
set_option maxRecDepth 100000 in
theorem other_any {p : Int × Int} {t : Int} {b3 : Nat} {x : Value} (hne : p.1 ≠ t) (h3 : Blk w b3 3 [.int .i64 t]) :
    Calls Try.prog 51 #[pinV p, unitV, ptr b3, x] w fun e w' => e = .returned (.bool false) ∧ Grow w w' := by
  obtain ⟨a, b⟩ := p
  simp only at hne
  have hq : (a != t) = true := by simpa using hne
  have HG : Hid (Grow w ((w.alloc (.cells #[.int .i64 a, .int .i64 b] 96)).alloc (.cells #[] 97))) := ((But.refl _ w).alloc _).alloc _
  have hb : Blk ((w.alloc (.cells #[.int .i64 a, .int .i64 b] 96)).alloc (.cells #[] 97)) w.heap.size 96 [.int .i64 a, .int .i64 b] := (Blk.new (L := [.int .i64 a, .int .i64 b]) rfl).but ((But.refl (fun _ => False) _).alloc _) (fun h => h)
  have c0 : ((w.alloc (.cells #[.int .i64 a, .int .i64 b] 96)).alloc (.cells #[] 97)).cell? ⟨w.heap.size, 0, none⟩ = some (.int .i64 a) := hb.cell 0
  have c1 : ((w.alloc (.cells #[.int .i64 a, .int .i64 b] 96)).alloc (.cells #[] 97)).cell? ⟨b3, 0, none⟩ = some (.int .i64 t) := (h3.but HG.out (fun h => h)).cell 0
  clear hb h3 hne
  go_enter Try.func51, Try.ntmps51
  go_wp2
  go_ret
  exact ⟨rfl, HG.out⟩
set_option maxRecDepth 100000 in
set_option maxHeartbeats 1000000 in
theorem mine_any {p : Int × Int} {t : Int} {b2 b3 g c : Nat} {v : Value} {m : Bool} (he : p.1 = t) (h2 : Blk w b2 25 [ptr gt]) (h3 : Blk w b3 3 [.int .i64 t]) (ht : Blk w gt 85 (tcl s.most s.left gr gf gp gh))
    (hlk : ∀ w1, Grow w w1 → (Instr.lookup 82 (.map (some gf)) (.int .i64 p.2) false).run Try.prog w1 = .ok (ptr g) w1) (hb : Blk w g 89 (fcl v m (c + 1))) (hc : c ≤ 100000) :
    Calls Try.prog 51 #[pinV p, unitV, ptr b3, ptr b2] w fun e w' => e = .returned (.bool true) ∧ Blk w' g 89 (fcl v m c) ∧ But (· = g) w w' := by
  obtain ⟨a, b⟩ := p
  simp only at he hlk
  subst he
  have HG : Hid (Grow w ((w.alloc (.cells #[.int .i64 a, .int .i64 b] 96)).alloc (.cells #[] 97))) := ((But.refl _ w).alloc _).alloc _
  have hbq : Blk ((w.alloc (.cells #[.int .i64 a, .int .i64 b] 96)).alloc (.cells #[] 97)) w.heap.size 96 [.int .i64 a, .int .i64 b] := (Blk.new (L := [.int .i64 a, .int .i64 b]) rfl).but ((But.refl (fun _ => False) _).alloc _) (fun h => h)
  have HBQ := Hid.mk' hbq
  have c0 : ((w.alloc (.cells #[.int .i64 a, .int .i64 b] 96)).alloc (.cells #[] 97)).cell? ⟨w.heap.size, 0, none⟩ = some (.int .i64 a) := hbq.cell 0
  have c1 : ((w.alloc (.cells #[.int .i64 a, .int .i64 b] 96)).alloc (.cells #[] 97)).cell? ⟨b3, 0, none⟩ = some (.int .i64 a) := (h3.but HG.out (fun h => h)).cell 0
  have hq : (a != a) = false := by simp
  have H2 := Hid.mk' h2
  have HT := Hid.mk' ht
  have HB := Hid.mk' hb
  have HLK := Hid.mk' hlk
  obtain ⟨q, hqq⟩ : ∃ q, q = w.heap.size := ⟨_, rfl⟩
  have HQQ := Hid.mk' hqq
  clear hbq h2 h3 ht hlk hb hqq
  go_enter Try.func51, Try.ntmps51
  go_upto_region 3 with fail
  rw [← HQQ.out] at HBQ ⊢
  clear c0 c1 hq HQQ
  generalize (w.alloc (.cells #[.int .i64 a, .int .i64 b] 96)).alloc (.cells #[] 97) = w1 at *
  refine region_chain [([0, 1, 2, 3, 4, 5, 6, 7, 8, 9, 10, 11, 12], 13)] [] (Grow w1) (Grow w1) (by kernel_rfl) (by kernel_rfl) (fun _ _ h k => h.trans k) (fun _ h => h) ((But.refl _ w1).drew) ?_
  intro ι hne X hX
  have d2 : ∀ x, (X x).cell? ⟨b2, 0, none⟩ = some (ptr gt) := fun x => (H2.out.but (HG.out.trans (hX x)) (fun h => h)).cell 0
  have d3 : ∀ x, (X x).cell? ⟨gt, 3, none⟩ = some (.map (some gf)) := fun x => (HT.out.but (HG.out.trans (hX x)) (fun h => h)).cell 3
  have dq : ∀ x, (X x).cell? ⟨q, 1, none⟩ = some (.int .i64 b) := fun x => (HBQ.out.but (hX x) (fun h => h)).cell 1
  have dg : ∀ x, (X x).cell? ⟨g, 2, none⟩ = some (.int .i64 ((c + 1 : Nat) : Int)) := fun x => (HB.out.but (HG.out.trans (hX x)) (fun h => h)).cell 2
  have hw1 : IntKind.i64.wrap (c : Int) = (c : Int) := wrapN _ (by omega)
  have e1 : ((c + 1 : Nat) : Int) - 1 = (c : Int) := by push_cast; omega
  generalize c + 1 = c1 at *
  iterate 6 (refine still_step rfl (fun K hK => ?_); go_simp; refine hK _ ?_; clear hK K)
  refine still_val rfl (ptr g) rfl (fun z => exec_lookup rfl rfl rfl (HLK.out _ (HG.out.trans (hX z)))) ?_
  intro K hK; go_simp; refine hK _ ?_; clear hK K
  iterate 6 (refine still_step rfl (fun K hK => ?_); go_simp; refine hK _ ?_; clear hK K)
  refine still_nil ?_
  clear d2 d3 dq dg hX hne X ι
  refine turn_run rfl rfl (fun _ w' => Blk w' g 89 (fcl v m c) ∧ But (· = g) w w') (fun _ _ => True) (fun _ _ _ h k => ⟨h.1.but k (fun h => h), h.2.trans (k.mono (fun _ _ h => h.elim))⟩) (fun _ _ _ => trivial) (.inl (by kernel_rfl)) ?_ ?_
  · intro w4 h4
    have hb4 := HB.out.but (HG.out.trans h4) (fun h => h)
    refine turn_store (by kernel_rfl) rfl rfl rfl rfl hb4 (by simp) ?_
    exact ⟨hb4.set 2 _, ((HG.out.trans h4).mono (fun _ _ h => h.elim)).trans (But.set1 _ _ _ _)⟩
  rintro v5 - Y hY
  go_simp
  refine hY _ ?_
  clear hY Y
  intro ι hne X hX
  refine still_nil ?_
  clear hX hne
  intro w6 hw6
  have HW6 := Hid.mk' hw6
  clear hw6
  go_wp2
  go_ret
  exact ⟨rfl, HW6.out⟩
end
end Go.Proofs.Ytmlklmhochihbaa
/- frames: Free: all pins of a task are taken out. -/
namespace Go.Proofs.Ytmlklmhochihbaa
open Go.RowKit Go.Maps

section
variable {w w' : World} {own own' : Owner} {gt gr gf gp gh gm : Nat} {fb : Int → Nat} {PL : List (Int × Int)} {s s' : St} {R : Nat → Prop}
theorem Fm.pinsAs {l : List (Int × Int)} (h : Fm w own gt gr gf gp gh gm fb PL s) (hm : ∀ x, x ∈ PL ↔ x ∈ l) (hl : l.length ≤ 100000) : Fm w own gt gr gf gp gh gm fb PL { s with pins := l } :=
  ⟨h.blk, h.res, h.frm, h.pin, h.pnd, hm, h.each, h.ht, h.ot, h.ort, h.ogf, h.ogp, h.ogh, h.ogm, h.ofb, ⟨h.ok.m1, h.ok.m2, h.ok.nd, h.ok.le, h.ok.ik, fun p hp => h.ok.pk p ((h.pmem p).1 ((hm p).2 hp)), h.ok.tn, h.ok.sk, h.ok.sl⟩, hl, h.top⟩
/-- A pin less. -/
theorem Fm.unpin {x : Int × Int} (h : Fm w own gt gr gf gp gh gm fb PL { s with pins := PL }) {e0 : FrE} (he0 : e0 ∈ s.fr) (hx2 : e0.1 = x.2) {v : Value} (k : But (fun b => b = gp ∨ b = fb x.2) w w')
    (hb : Blk w' (fb x.2) 89 (fcl v e0.2.2 (cnt (PL.erase x) x.2))) (hv : Bf w (Is own tByt) v e0.2.1) (hx : x ∈ PL) (hm : MapOf 96 w' gp pinV (fun _ => unitV) (PL.erase x)) :
    Fm w' own gt gr gf gp gh gm fb (PL.erase x) { s with pins := PL.erase x } := by
  have ne : ∀ b t, own b = t → t ≠ .wri → t ≠ tFr x.2 → ¬ (b = gp ∨ b = fb x.2) := fun b t e h1 h2 e2 => by
    rcases e2 with e2 | e2
    · rw [e2, h.ogp] at e; exact h1 e.symm
    · have h3 := h.ofb e0 he0
      rw [hx2] at h3
      rw [e2, h3] at e; exact h2 e.symm
  refine ⟨h.blk.but k (ne _ _ h.ot (by decide) (fun e => nomatch e)), h.res.but k (ne _ _ h.ort (by decide) (fun e => nomatch e)), h.frm.but k (ne _ _ h.ogf (by decide) (fun e => nomatch e)), hm, h.pnd.erase _, fun _ => Iff.rfl, fun e he => ?_,
    h.ht.but k (ne _ _ h.ogh (by decide) (fun e => nomatch e)) (ne _ _ h.ogm (by decide) (fun e => nomatch e)), h.ot, h.ort, h.ogf, h.ogp, h.ogh, h.ogm, h.ofb, ⟨h.ok.m1, h.ok.m2, h.ok.nd, h.ok.le, h.ok.ik, fun p hp => h.ok.pk p (List.mem_of_mem_erase hp), h.ok.tn, h.ok.sk, h.ok.sl⟩, ?_, h.top.grow k.size⟩
  · by_cases hk : e.1 = x.2
    · have e1 : e = e0 := one_key h.ok.nd he he0 (by rw [hk, hx2])
      rw [e1, hx2]
      exact ⟨v, hb, hv.but k (fun j hj => ne _ _ hj (fun e => nomatch e) (fun e => tFr_byt _ e.symm))⟩
    · obtain ⟨u, h1, h2⟩ := h.each e he
      have hc : cnt (PL.erase x) e.1 = cnt PL e.1 := by
        rw [cnt_perm (List.perm_cons_erase hx) e.1, cnt_cons, if_neg (fun e2 => hk e2.symm), Nat.add_zero]
      rw [hc]
      exact ⟨u, h1.but k (ne _ _ (h.ofb e he) (fun e => nomatch e) (fun e2 => hk (tFr_inj e2))), h2.but k (fun j hj => ne _ _ hj (fun e => nomatch e) (fun e => tFr_byt _ e.symm))⟩
  · have := h.pl
    exact Nat.le_trans List.length_erase_le this
/-- Amid the range. -/
structure DelI (w : World) (own : Owner) (gt gr gf gp gh gm : Nat) (fb : Int → Nat) (s : St) (t : Int) (r : Nat) (wr : World) (PL lf : List (Int × Int)) : Prop where
  fm : Fm wr own gt gr gf gp gh gm fb PL { s with pins := PL }
  rg : Ranged 96 wr r gp pinV (fun _ => unitV) PL lf
  nd : lf.Nodup
  dn : ∀ x ∈ PL, x ∉ lf → x.1 ≠ t
  sub : ∀ x ∈ PL, x ∈ s.pins
  kp : ∀ x ∈ s.pins, x.1 ≠ t → x ∈ PL
  but : But (Wr own) w wr
theorem exec_entryF {w : World} {o : Oper} {ρ : Operand → Value} {x : Operand} {u r : Value} (ho : o.op = .entry x) (hx : ρ x = u) (h : (Instr.entry u).run Try.prog w = .ok r w) : (execOp ρ o).run Try.prog w = .ok (.value r) w := exec_entry ho hx h
set_option maxRecDepth 100000 in
set_option maxHeartbeats 4000000 in
theorem delf_any (h : Fm w own gt gr gf gp gh gm fb PL s) {t : Int} {b2 b3 : Nat} (h2 : Blk w b2 25 [ptr gt]) (h3 : Blk w b3 3 [.int .i64 t]) (o2 : own b2 = .none) (o3 : own b3 = .none) :
    Calls Try.prog 50 #[.map (some gp), .func (.func 51) #[] #[ptr b3, ptr b2]] w fun e w' => e = .returned (.tuple #[]) ∧ (∃ PL', Fm w' own gt gr gf gp gh gm fb PL' { s with pins := s.pins.filter (fun p => !(p.1 == t)) }) ∧ But (Wr own) w w' := by
  have HPLS := Hid.mk' h.pl
  have hpn : (PL.map pinV).Nodup := nodup_map (fun _ _ _ _ e => pinV_inj e) h.pnd
  obtain ⟨w2, hrg, hg2, hsz2, hR2⟩ := h.pin.range (t := 83) (et := 97) Try.underlying83 hpn
  obtain ⟨r, hr⟩ : ∃ r, r = w.heap.size := ⟨_, rfl⟩
  rw [← hr] at hrg hR2
  have HRN : Hid (own r = .none) := h.top r (by omega)
  have HRW := Hid.mk' hr
  have HRG := Hid.mk' hrg
  have HPL0 : PL.length ≤ 100000 := Nat.le_trans (nodup_len h.pnd (fun x hx => (h.pmem x).1 hx)) h.pl
  have HST : Hid (DelI w own gt gr gf gp gh gm fb s t r w2 PL PL) := ⟨(h.grow hg2).pinsAs (fun _ => Iff.rfl) HPL0, hR2, h.pnd, fun x hx hn => absurd hx hn, fun x hx => (h.pmem x).1 hx, fun x hx _ => (h.pmem x).2 hx, hg2.mono (fun _ _ h => h.elim)⟩
  have H2 := Hid.mk' h2
  have H3 := Hid.mk' h3
  have O2 := Hid.mk' o2
  have O3 := Hid.mk' o3
  have HTOP := Hid.mk' h.top
  clear h hpn hrg hg2 hsz2 hR2 hr HPL0 h2 h3 o2 o3
  go_enter Try.func50, Try.ntmps50
  go_wp2_with (first
    | (refine wpList_runH rfl (exec_range rfl rfl HRG.out) ?_)
    | fail)
  refine act_down (fun K hK => ?_)
  go_simp
  refine hK _ ?_
  clear hK K
  go_loopw [4, 5] (fun _ _ wr => ∃ PLc lf, DelI w own gt gr gf gp gh gm fb s t r wr PLc lf) (fun _ _ wr => leftN wr r gp)
  case atStart => exact ⟨PL, PL, HST.out⟩
  case round =>
    clear HST HRG
    obtain ⟨PLc, lf, hI⟩ := hrel
    have HI := Hid.mk' hI
    rcases hI.rg.next 0 with ⟨rfl, hnx⟩ | ⟨x, lf', w3, hx, hperm, hnx, hb3, hsz3, hR3, hent⟩
    · have HNX := Hid.mk' hnx
      have HFIN : Hid ((∃ PL', Fm wr own gt gr gf gp gh gm fb PL' { s with pins := s.pins.filter (fun p => !(p.1 == t)) }) ∧ But (Wr own) w wr) := by
        refine ⟨⟨PLc, hI.fm.pinsAs (fun x => ?_) ?_⟩, hI.but⟩
        · rw [List.mem_filter]
          constructor
          · intro hx
            exact ⟨hI.sub x hx, by have := hI.dn x hx List.not_mem_nil; simpa using this⟩
          · rintro ⟨h1, h2⟩
            exact hI.kp x h1 (by simpa using h2)
        · exact Nat.le_trans (List.length_filter_le _ _) HPLS.out
      clear hnx hI
      go_wp2_with (first
        | (refine wpList_runH rfl (exec_next rfl rfl rfl HNX.out) ?_)
        | fail)
      go_end0
      exact ⟨rfl, HFIN.out⟩
    · obtain ⟨a, b⟩ := x
      have HNX := Hid.mk' hnx
      have HENT := Hid.mk' hent
      obtain ⟨q, hq⟩ : ∃ q, q = w3.heap.size := ⟨_, rfl⟩
      have HQ := Hid.mk' hq
      obtain ⟨w5, hw5⟩ : ∃ w5, w5 = (w3.alloc (.cells #[.int .i64 0, .int .i64 0] 96)).alloc (.cells #[] 97) := ⟨_, rfl⟩
      have HW5 := Hid.mk' hw5
      have HG5 : Hid (Grow w3 w5) := by rw [hw5]; exact ((But.refl _ w3).alloc _).alloc _
      have HB5 : Hid (Blk w5 q 96 [.int .i64 0, .int .i64 0]) := by rw [hw5]; exact (Blk.new (L := [.int .i64 0, .int .i64 0]) hq.symm).but ((But.refl (fun _ => False) _).alloc _) (fun h => h)
      -- the state behind the next one
      have hrq : r < q := by have := hI.rg.lt.1; omega
      have hwq : w.heap.size ≤ q := by have := hI.but.size; omega
      have hqn : own q = .none := HTOP.out q hwq
      have h3I : Fm w3 own gt gr gf gp gh gm fb PLc { s with pins := PLc } := hI.fm.but hb3 (fun c hc e => hc (by rw [e]; exact HRN.out))
      have HI3 := Hid.mk' h3I
      have HR3 := Hid.mk' hR3
      have HB3 : Hid (But (Wr own) w w3) := hI.but.then hb3 (fun i hi e => by have := HRW.out; omega)
      have HX := Hid.mk' hx
      have HP := Hid.mk' hperm
      have HQN := Hid.mk' hqn
      have HWQ := Hid.mk' hwq
      have hnd2 : ((a, b) :: lf').Nodup := hperm.nodup_iff.1 hI.nd
      have HND := Hid.mk' (List.nodup_cons.1 hnd2)
      have HLT : Hid (leftN w3 r gp < leftN wr r gp) := by
        show _ < _
        rw [hR3.left, hI.rg.left, hperm.length_eq]
        simp
      clear hnx hent hq hw5 hrq hwq hqn h3I hR3 hI hb3 hx hperm hnd2 hsz3
      go_wp2_with (first
        | (refine wpList_runH rfl (exec_next rfl rfl rfl HNX.out) ?_)
        | (refine wpList_runH rfl (exec_entry rfl rfl HENT.out) ?_)
        | (refine wpList_store_at rfl _ _ _ rfl q 0 [.int .i64 a, .int .i64 b] (by rw [HQ.out]; rfl) rfl 96 [] [.int .i64 0, .int .i64 0] [] (by rw [← HW5.out]; simpa using HB5.out) rfl rfl iPin (by intro v hv; rcases List.mem_cons.1 hv with rfl | hv; rfl; rcases List.mem_cons.1 hv with rfl | hv; rfl; cases hv) ?_; intro w6 hb6 hbut6; rw [List.nil_append, List.append_nil] at hb6; rw [← HW5.out] at hbut6)
        | (refine wpList_skipH rfl (exec_store0 iUnit rfl rfl rfl) ?_)
        | (refine wpList_load_cells rfl _ _ rfl ⟨q, 0, none⟩ (by rw [HQ.out]; rfl) [.int .i64 a, .int .i64 b] _ hb6.cells0 Try.underlying96 rfl iPin ?_)
        | (refine wpList_runH rfl (exec_ldF (cs := []) Try.underlying97 rfl iUnit (fun j u hj => by simp at hj) rfl rfl) ?_)
        | fail)
      have hG6 : Grow w3 w6 := HG5.out.then hbut6 (fun i hi e => by have := HQ.out; omega)
      have HF6 := Hid.mk' (HI3.out.grow hG6)
      have HR6 := Hid.mk' (HR3.out.grow hG6)
      have HB6 := Hid.mk' hb6
      have HBT6 : Hid (But (Wr own) w w6) := HB3.out.trans (hG6.mono (fun _ _ h => h.elim))
      have H26 : Hid (Blk w6 b2 25 [ptr gt]) := H2.out.but HBT6.out (fun e => e.1 O2.out)
      have H36 : Hid (Blk w6 b3 3 [.int .i64 t]) := H3.out.but HBT6.out (fun e => e.1 O3.out)
      have HL3 := Hid.mk' HR3.out.left
      have HLw : Hid (lf'.length < leftN wr r gp) := by have := HLT.out; rw [HL3.out] at this; exact this
      clear hb6 hbut6 hG6 HI3 HR3 HB3 HG5 HB5 HW5
      by_cases hat : a = t
      · obtain ⟨-, hib, hhas⟩ := HF6.out.ok.pk (a, b) HX.out
        obtain ⟨hia, -⟩ := HF6.out.ok.pk (a, b) HX.out
        obtain ⟨e0, he0, hek⟩ := St.has_iff.1 hhas
        obtain ⟨v, hb0, hv0⟩ := HF6.out.each e0 he0
        simp only at hek hib hia
        have hcn : cnt PLc b = cnt (PLc.erase (a, b)) b + 1 := by
          rw [cnt_perm (List.perm_cons_erase HX.out) b, cnt_cons, if_pos rfl]
        rw [hek, hcn] at hb0
        have hcl : cnt (PLc.erase (a, b)) b ≤ 100000 := by have := HF6.out.cl b; omega
        have HM := Hid.mk' (mine_any (p := (a, b)) (w := w6) (s := { s with pins := PLc }) hat H26.out H36.out HF6.out.blk (fun w1 k => (HF6.out.grow k).looks hib |>.1 hhas) hb0 hcl)
        have hqf : ¬ (q = fb b) := fun e => by
          have h1 := HF6.out.ofb e0 he0
          rw [hek, ← e, HQN.out] at h1; cases h1
        have hgpf : ¬ (gp = fb b) := fun e => by
          have h1 := HF6.out.ofb e0 he0
          rw [hek, ← e, HF6.out.ogp] at h1; cases h1
        have hrf : ¬ (r = fb b) := fun e => by
          have h1 := HF6.out.ofb e0 he0
          rw [hek, ← e, HRN.out] at h1; cases h1
        have HQF := Hid.mk' hqf
        obtain ⟨l, hl⟩ := keyOfPin (p := (a, b)) hia hib
        have HNEXT : Hid (∀ w7, Blk w7 (fb b) 89 (fcl v e0.2.2 (cnt (PLc.erase (a, b)) b)) → But (· = fb b) w6 w7 → ∃ w8, (Builtin.delete_ #[83, 96] 0 #[.map (some gp), pinV (a, b)]).run Try.prog w7 = .ok (.tuple #[]) w8 ∧ DelI w own gt gr gf gp gh gm fb s t r w8 (PLc.erase (a, b)) lf' ∧ leftN w8 r gp < leftN wr r gp) := fun w7 hb7 hk7 => by
          have hR7 := HR6.out.but hk7 hrf hgpf
          obtain ⟨w8, hr8, hR8, hb8, -⟩ := hR7.del (l' := PLc.erase (a, b)) (t := 83) (et := 97) keyPin Try.underlying83 HX.out hl (fun y hy e => HND.out.1 (by rw [← pinV_inj e]; exact hy)) (fun y => by
            rw [HF6.out.pnd.mem_erase_iff]
            exact ⟨fun h => ⟨h.2, fun e => h.1 (pinV_inj e)⟩, fun h => ⟨fun e => h.2 (by rw [e]), h.1⟩⟩) 0
          have kk : But (fun c => c = gp ∨ c = fb b) w6 w8 := (hk7.mono (fun _ _ e => .inr e)).trans (hb8.mono (fun _ _ e => .inl e))
          refine ⟨w8, hr8, ⟨?_, hR8, HND.out.2, fun y hy hn => ?_, fun y hy => ?_, fun y hy hne => ?_, ?_⟩, ?_⟩
          · exact HF6.out.unpin (x := (a, b)) he0 hek kk (hb7.but hb8 (fun e => hgpf e.symm)) hv0 HX.out hR8.map
          · obtain ⟨h1, h2⟩ := HF6.out.pnd.mem_erase_iff.1 hy
            exact HI.out.dn y h2 (fun h3 => hn (by
              rcases List.mem_cons.1 (HP.out.mem_iff.1 h3) with e | e
              · exact absurd e h1
              · exact e))
          · exact HI.out.sub y (List.mem_of_mem_erase hy)
          · exact HF6.out.pnd.mem_erase_iff.2 ⟨fun e => hne (by rw [e]; exact hat), HI.out.kp y hy hne⟩
          · refine HBT6.out.trans (kk.mono (fun c _ e => ?_))
            rcases e with e | e
            · rw [e, Wr, HF6.out.ogp]; exact ⟨by decide, by decide⟩
            · rw [e, ← hek]; exact HF6.out.wrF he0
          · rw [hR8.left]; exact HLw.out
        generalize cnt (PLc.erase (a, b)) b = c at *
        generalize fb b = g at *
        clear hib hhas he0 hek hb0 hv0 hcn hcl hqf hgpf hrf hl hia hat
        refine Calls.mono HM.out ?_
        rintro e w7 ⟨rfl, hb7, hk7⟩
        obtain ⟨w8, hr8, hI8, hl8⟩ := HNEXT.out w7 hb7 hk7
        have HR8 := Hid.mk' hr8
        have HI8 := Hid.mk' hI8
        have HL8 := Hid.mk' hl8
        have HBQ := Hid.mk' (HB6.out.but hk7 HQF.out)
        clear hb7 hk7 hr8 hI8 hl8 HNEXT HM
        go_wp2_with (first
          | (refine wpList_load_cells rfl _ _ rfl ⟨q, 0, none⟩ (by rw [HQ.out]; rfl) [.int .i64 a, .int .i64 b] _ HBQ.out.cells0 Try.underlying96 rfl iPin ?_)
          | (refine wpList_runH rfl (exec_deleteH rfl rfl rfl HR8.out) ?_)
          | fail)
        go_roundw
        case rel => exact ⟨_, _, _, _, _, _, _, _, _, _, _, _, _, ⟨_, _, HI8.out⟩, rfl⟩
        case measure => exact HL8.out
      · have HM := Hid.mk' (other_any (p := (a, b)) (w := w6) (x := ptr b2) hat H36.out)
        have HNEXT : Hid (∀ w7, Grow w6 w7 → DelI w own gt gr gf gp gh gm fb s t r w7 PLc lf' ∧ leftN w7 r gp < leftN wr r gp) := fun w7 k7 => by
          have hR7 := HR6.out.grow k7
          refine ⟨⟨HF6.out.grow k7, hR7, HND.out.2, fun y hy hn => ?_, HI.out.sub, HI.out.kp, HBT6.out.trans (k7.mono (fun _ _ h => h.elim))⟩, by rw [hR7.left]; exact HLw.out⟩
          by_cases hyx : y = (a, b)
          · rw [hyx]; exact hat
          · exact HI.out.dn y hy (fun h3 => hn (by
              rcases List.mem_cons.1 (HP.out.mem_iff.1 h3) with e | e
              · exact absurd e hyx
              · exact e))
        refine Calls.mono HM.out ?_
        rintro e w7 ⟨rfl, hk7⟩
        obtain ⟨hI8, hl8⟩ := HNEXT.out w7 hk7
        have HI8 := Hid.mk' hI8
        have HL8 := Hid.mk' hl8
        clear hk7 hI8 hl8 HNEXT HM
        go_wp2
        exact ⟨⟨_, _, HI8.out⟩, HL8.out⟩
end
end Go.Proofs.Ytmlklmhochihbaa
/- frames: Free. -/
namespace Go.Proofs.Ytmlklmhochihbaa
open Go.RowKit Go.Maps

set_option maxRecDepth 100000 in
theorem free_nil (w : World) (t : Int) : Calls Try.prog 21 #[.pointer none, .int .i64 t] w fun e w' => e = .returned (.tuple #[]) ∧ Grow w w' := by
  have HG : Hid (Grow w ((w.alloc (.cells #[.pointer none] 25)).alloc (.cells #[.int .i64 t] 3))) := ((But.refl _ w).alloc _).alloc _
  have hb : Blk ((w.alloc (.cells #[.pointer none] 25)).alloc (.cells #[.int .i64 t] 3)) w.heap.size 25 [.pointer none] := (Blk.new (L := [.pointer none]) rfl).but ((But.refl (fun _ => False) _).alloc _) (fun h => h)
  have c0 : ((w.alloc (.cells #[.pointer none] 25)).alloc (.cells #[.int .i64 t] 3)).cell? ⟨w.heap.size, 0, none⟩ = some (.pointer none) := hb.cell 0
  clear hb
  go_enter Try.func21, Try.ntmps21
  go_wp2
  exact bodyPost_ret (results_none rfl _ _ _) rfl ⟨rfl, HG.out⟩
section
variable {w w' : World} {own own' : Owner} {gt gr gf gp gh gm : Nat} {fb : Int → Nat} {PL : List (Int × Int)} {s s' : St} {R : Nat → Prop}
set_option maxRecDepth 100000 in
set_option maxHeartbeats 2000000 in
theorem free_any (h : Ft w own gt s) {t : Int} (ht : i64 t) : Calls Try.prog 21 #[ptr gt, .int .i64 t] w fun e w' => e = .returned (.tuple #[]) ∧ FtTo w own gt (s.free t) w' := by
  obtain ⟨gr, gf, gp, gh, gm, fb, PL, h⟩ := h
  have HH := Hid.mk' h
  have HTT := Hid.mk' ht
  obtain ⟨w1, hw1⟩ : ∃ w1, w1 = (w.alloc (.cells #[ptr gt] 25)).alloc (.cells #[.int .i64 t] 3) := ⟨_, rfl⟩
  have HW1 := Hid.mk' hw1
  have HG1 : Hid (Grow w w1) := by rw [hw1]; exact ((But.refl _ w).alloc _).alloc _
  have HB2 : Hid (Blk w1 w.heap.size 25 [ptr gt]) := by rw [hw1]; exact (Blk.new (L := [ptr gt]) rfl).but ((But.refl (fun _ => False) _).alloc _) (fun h => h)
  have HB3 : Hid (Blk w1 (w.heap.size + 1) 3 [.int .i64 t]) := by rw [hw1]; exact Blk.new (L := [.int .i64 t]) (by simp)
  have c0 : ((w.alloc (.cells #[ptr gt] 25)).alloc (.cells #[.int .i64 t] 3)).cell? ⟨w.heap.size, 0, none⟩ = some (ptr gt) := by rw [← hw1]; exact HB2.out.cell 0
  have HO2 : Hid (own w.heap.size = .none) := h.top _ (Nat.le_refl _)
  have HO3 : Hid (own (w.heap.size + 1) = .none) := h.top _ (Nat.le_succ _)
  obtain ⟨b2, hb2⟩ : ∃ b2, b2 = w.heap.size := ⟨_, rfl⟩
  obtain ⟨b3, hb3⟩ : ∃ b3, b3 = w.heap.size + 1 := ⟨_, rfl⟩
  have HBE2 := Hid.mk' hb2
  have HBE3 := Hid.mk' hb3
  rw [← hb2] at HB2 HO2
  rw [← hb3] at HB3 HO3
  obtain ⟨q, hq⟩ : ∃ q, q = share s.sh t := ⟨_, rfl⟩
  have HLK : Hid (∀ w', Grow w1 w' → (Instr.lookup 81 (.map (some gr)) (.int .i64 t) false).run Try.prog w' = .ok (.int .i64 q) w') := fun w' k => by rw [hq]; exact (h.grow (HG1.out.trans k)).shareLook ht
  have hl0 := h.ok.left0
  have hm2 := h.ok.m2
  have hq0 : 0 ≤ q := by rw [hq]; exact share_nonneg (fun p hp => (h.ok.sk p hp).2) t
  have hq1 : q ≤ 1024 := by
    have := share_le (fun p hp => (h.ok.sk p hp).2) h.ok.tn t
    have := h.ok.sl
    rw [hq]; omega
  have HLF : Hid (({ s with sh := s.sh.filter (fun p => !(p.1 == t)) } : St).left = s.left + q) := by
    show (s.most : Int) - sums (s.sh.filter (fun p => !(p.1 == t))) = (s.most : Int) - sums s.sh + q
    rw [sums_filter h.ok.tn, ← hq]; omega
  have HQW : Hid (IntKind.i64.wrap (s.left + q) = s.left + q) := wrapI (by omega) (by omega)
  have hgtr : ¬ gt = gr := fun e => by have := h.ot; rw [e, h.ort] at this; cases this
  have HGTR := Hid.mk' hgtr
  clear h ht hw1 hb2 hb3 hq hl0 hm2 hq0 hq1 hgtr
  go_enter Try.func21, Try.ntmps21
  go_upto_region 2 with fail
  rw [← HW1.out, ← HBE3.out, ← HBE2.out]
  clear c0
  refine region_chain [([0, 1, 2, 3, 4, 5, 6, 7, 8, 9, 10, 11, 12], 13)] [] (Grow w1) (Grow w1) (by kernel_rfl) (by kernel_rfl) (fun _ _ h k => h.trans k) (fun _ h => h) ((But.refl _ w1).drew) ?_
  intro ι hne X hX
  have d2 : ∀ x, (X x).cell? ⟨b2, 0, none⟩ = some (ptr gt) := fun x => (HB2.out.but (hX x) (fun h => h)).cell 0
  have d3 : ∀ x, (X x).cell? ⟨b3, 0, none⟩ = some (.int .i64 t) := fun x => (HB3.out.but (hX x) (fun h => h)).cell 0
  have dt1 : ∀ x, (X x).cell? ⟨gt, 1, none⟩ = some (.int .i64 s.left) := fun x => ((HH.out.grow (HG1.out.trans (hX x))).blk).cell 1
  have dt2 : ∀ x, (X x).cell? ⟨gt, 2, none⟩ = some (.map (some gr)) := fun x => ((HH.out.grow (HG1.out.trans (hX x))).blk).cell 2
  have hqw := HQW.out
  generalize hsl : s.left = L at *
  generalize hLq : L + q = Lq at *
  iterate 9 (refine still_step rfl (fun K hK => ?_); go_simp; refine hK _ ?_; clear hK K)
  refine still_val rfl (.int .i64 q) rfl (fun z => exec_lookup rfl rfl rfl (HLK.out _ (hX z))) ?_
  intro K hK; go_simp; refine hK _ ?_; clear hK K
  iterate 3 (refine still_step rfl (fun K hK => ?_); go_simp; refine hK _ ?_; clear hK K)
  refine still_nil ?_
  clear d2 d3 dt1 dt2 hX hne X ι
  refine turn_run rfl rfl (fun _ w' => Blk w' gt 85 (tcl s.most Lq gr gf gp gh) ∧ But (· = gt) w1 w') (fun _ _ => True) (fun _ _ _ h k => ⟨h.1.but k (fun h => h), h.2.trans (k.mono (fun _ _ h => h.elim))⟩) (fun _ _ _ => trivial) (.inl (by kernel_rfl)) ?_ ?_
  · intro w4 h4
    have hb4 := (HH.out.grow (HG1.out.trans h4)).blk
    refine turn_store (by kernel_rfl) rfl rfl rfl rfl hb4 (by simp) ?_
    exact ⟨hb4.set 1 _, (h4.mono (fun _ _ h => h.elim)).trans (But.set1 _ _ _ _)⟩
  rintro v5 - Y hY
  go_simp
  refine hY _ ?_
  clear hY Y
  intro ι hne X hX
  refine still_nil ?_
  clear hX hne
  intro w3 hw3
  have HBT := Hid.mk' hw3.1
  have HK3 := Hid.mk' hw3.2
  clear hw3
  have HN2 : Hid (b2 ≠ gt) := fun e => by have := HO2.out; rw [e, HH.out.ot] at this; cases this
  have HN3 : Hid (b3 ≠ gt) := fun e => by have := HO3.out; rw [e, HH.out.ot] at this; cases this
  have HB23 := Hid.mk' (HB2.out.but HK3.out HN2.out)
  have HB33 := Hid.mk' (HB3.out.but HK3.out HN3.out)
  have HDEL : Hid (∀ w4, Grow w3 w4 → ∃ w5, (Builtin.delete_ #[81, 3] 0 #[.map (some gr), .int .i64 t]).run Try.prog w4 = .ok (.tuple #[]) w5 ∧ Fm w5 own gt gr gf gp gh gm fb PL { s with sh := s.sh.filter (fun p => !(p.1 == t)) } ∧ But (fun b => b = gr ∨ b = gt) w1 w5 ∧ But (· = gr) w3 w5) := fun w4 k4 => by
    have h1 := HH.out.grow HG1.out
    have hres := (h1.res.but (HK3.out.trans (k4.mono (fun _ _ h => h.elim))) (fun e => HGTR.out e.symm))
    obtain ⟨w5, hr, hm, hb, -⟩ := hres.del (l' := s.sh.filter (fun p => !(p.1 == t))) (t := 81) (et := 3) keyIa Try.underlying81 (keyOfIa t HTT.out) (fun x => by
      rw [List.mem_filter]
      exact ⟨fun h => ⟨h.1, fun e => by have := h.2; rw [iv_inj e] at this; simp at this⟩, fun h => ⟨h.1, by have : x.1 ≠ t := fun e => h.2 (by rw [e]); simpa using this⟩⟩) 0
    have kk : But (fun b => b = gr ∨ b = gt) w1 w5 := (HK3.out.mono (fun _ _ e => .inr e)).trans ((k4.mono (fun _ _ h => h.elim)).trans (hb.mono (fun _ _ e => .inl e)))
    refine ⟨w5, hr, h1.shrd kk (show Sok { s with sh := s.sh.filter (fun p => !(p.1 == t)) } from ?_) ?_ hm, kk, (k4.mono (fun _ _ h => h.elim)).trans hb⟩
    · have := HH.out.ok.free t
      exact ⟨this.m1, this.m2, this.nd, this.le, this.ik, HH.out.ok.pk, this.tn, this.sk, this.sl⟩
    · rw [HLF.out]
      exact (HBT.out.but k4 (fun h => h)).but hb HGTR.out
  clear HLK HQW hqw
  go_upto_region 3 with fail
  have HR2 : Hid (b2 ≠ gr) := fun e => by have := HO2.out; rw [e, HH.out.ort] at this; cases this
  have HR3 : Hid (b3 ≠ gr) := fun e => by have := HO3.out; rw [e, HH.out.ort] at this; cases this
  refine region_chain [([0, 1, 2, 3, 4], 5)] [] (But (· = gr) w3) (Grow w3) (by kernel_rfl) (by kernel_rfl) (fun _ _ h k => h.trans k) (fun _ h => h.mono (fun _ _ h => h.elim)) ((But.refl _ w3).drew) ?_
  intro ι hne X hX
  have d2 : ∀ x, (X x).cell? ⟨b2, 0, none⟩ = some (ptr gt) := fun x => (HB23.out.but (hX x) HR2.out).cell 0
  have d3 : ∀ x, (X x).cell? ⟨b3, 0, none⟩ = some (.int .i64 t) := fun x => (HB33.out.but (hX x) HR3.out).cell 0
  have dt2 : ∀ x, (X x).cell? ⟨gt, 2, none⟩ = some (.map (some gr)) := fun x => (HBT.out.but (hX x) HGTR.out).cell 2
  iterate 5 (refine still_step rfl (fun K hK => ?_); go_simp; refine hK _ ?_; clear hK K)
  refine still_nil ?_
  clear d2 d3 dt2 hX hne X ι
  refine turn_run rfl rfl (fun _ w' => Fm w' own gt gr gf gp gh gm fb PL { s with sh := s.sh.filter (fun p => !(p.1 == t)) } ∧ But (fun b => b = gr ∨ b = gt) w1 w' ∧ But (· = gr) w3 w') (fun _ => But (· = gr) w3) (fun _ _ _ h k => ⟨h.1.grow k, h.2.1.trans (k.mono (fun _ _ h => h.elim)), h.2.2.trans (k.mono (fun _ _ h => h.elim))⟩) (fun _ _ h => h.2.2) (.inr (fun _ _ h => h)) ?_ ?_
  · intro w4 h4
    obtain ⟨w5, hr, hf5⟩ := HDEL.out w4 h4
    exact ⟨_, w5, .inl (exec_deleteH rfl rfl rfl hr), hf5⟩
  rintro v5 - Y hY
  go_simp
  refine hY _ ?_
  clear hY Y
  intro ι hne X hX
  refine still_nil ?_
  clear hX hne
  rintro w6 ⟨hf6, hk6, -⟩
  have hne2 : ∀ b, own b = .none → ¬ (b = gr ∨ b = gt) := fun b e e2 => by
    rcases e2 with e2 | e2
    · rw [e2, HH.out.ort] at e; cases e
    · rw [e2, HH.out.ot] at e; cases e
  have hb26 := HB2.out.but hk6 (hne2 _ HO2.out)
  have hb36 := HB3.out.but hk6 (hne2 _ HO3.out)
  have e2 : w6.cell? ⟨b2, 0, none⟩ = some (ptr gt) := hb26.cell 0
  have e4 : w6.cell? ⟨gt, 4, none⟩ = some (.map (some gp)) := hf6.blk.cell 4
  have HD := Hid.mk' (delf_any hf6 hb26 hb36 HO2.out HO3.out)
  have HFIN : Hid (∀ w7, (∃ PL', Fm w7 own gt gr gf gp gh gm fb PL' { ({ s with sh := s.sh.filter (fun p => !(p.1 == t)) } : St) with pins := s.pins.filter (fun p => !(p.1 == t)) }) → But (Wr own) w6 w7 → FtTo w own gt (s.free t) w7) := fun w7 h7 k7 => by
    obtain ⟨PL', h7⟩ := h7
    refine Ft.one h7 ((HG1.out.mono (fun _ _ h => h.elim)).trans ((hk6.mono (fun b _ e => ?_)).trans k7))
    rcases e with e | e
    · rw [e, Wr, HH.out.ort]; exact ⟨by decide, by decide⟩
    · rw [e, Wr, HH.out.ot]; exact ⟨by decide, by decide⟩
  clear hf6 hk6 hb26 hb36 hne2 HDEL
  go_wp2_with fail
  refine Calls.mono HD.out ?_
  rintro e w7 ⟨rfl, h7, k7⟩
  have HW7 := Hid.mk' (HFIN.out w7 h7 k7)
  clear h7 k7
  go_wp2
  go_end0
  exact ⟨rfl, HW7.out⟩
end
end Go.Proofs.Ytmlklmhochihbaa
/- frames: New. -/
namespace Go.Proofs.Ytmlklmhochihbaa
open Go.RowKit Go.Maps

theorem newf_arg (w : World) (x : Int) (hx : ¬ (1 ≤ x ∧ x ≤ 1024)) :
    Calls Try.prog 14 #[.int .i64 x] w fun e w' => e = .returned (.tuple #[.pointer none, .int .i64 1]) ∧ w' = w := by
  by_cases h1 : x < 1
  · go_enter Try.func14, Try.ntmps14
    go_wp2
    exact bodyPost_ret (results_tmp2 rfl _ _ _) rfl ⟨rfl, rfl⟩
  · have h2 : 1024 < x := by omega
    clear hx
    go_enter Try.func14, Try.ntmps14
    go_wp2
    exact bodyPost_ret (results_tmp2 rfl _ _ _) rfl ⟨rfl, rfl⟩
theorem mkM (w : World) (t : TypeId) : (Instr.makeMap t none).run Try.prog w = .ok (.map (some w.heap.size)) (w.alloc (.map #[] 0)) := by
  simp [Instr.makeMap]
def ownN (g : Nat) : Owner := fun b => if b = g then .pic else if b = g + 1 then .imr else if b = g + 2 then .sto else if b = g + 3 then .map else if b = g + 4 then .wri else if b = g + 5 then .dev else .none
theorem ownN_ge {g b : Nat} (h : ownN g b ≠ .none) : g ≤ b ∧ b < g + 6 := by
  unfold ownN at h
  repeat' split at h
  all_goals first
    | omega
    | exact absurd rfl h
theorem Fm.fresh {w w1 : World} {g : Nat} {n : Nat} (hg : g = w.heap.size) (h : HtM w1 (g + 1) g 16 0 tnone) (k : Grow w w1) (hs : w1.heap.size = g + 2) (h1 : 1 ≤ n) (h2 : n ≤ 1024) {W : World} (hW : W = (((w1.alloc (.map #[] 0)).alloc (.map #[] 0)).alloc (.map #[] 0)).alloc (.cells (tcl n n (g + 2) (g + 3) (g + 4) (g + 1)).toArray 85)) :
    Ft W (ownN g) (g + 5) (St.new n) ∧ Grow w W := by
  have a1 : Grow w1 (w1.alloc (.map #[] 0)) := (But.refl _ _).alloc _
  have s1 : (w1.alloc (.map #[] 0)).heap.size = g + 3 := by simp [hs]
  have m1 : MapOf 3 (w1.alloc (.map #[] 0)) (g + 2) (fun p : Int × Int => iv p.1) (fun p => iv p.2) [] := MapOf.new _ hs _ _
  generalize w1.alloc (.map #[] 0) = w2 at *
  have a2 : Grow w2 (w2.alloc (.map #[] 0)) := (But.refl _ _).alloc _
  have s2 : (w2.alloc (.map #[] 0)).heap.size = g + 4 := by simp [s1]
  have m2 : MapOf 3 (w2.alloc (.map #[] 0)) (g + 3) iv (fun _ => ptr 0) [] := MapOf.new _ s1 _ _
  generalize w2.alloc (.map #[] 0) = w3 at *
  have a3 : Grow w3 (w3.alloc (.map #[] 0)) := (But.refl _ _).alloc _
  have s3 : (w3.alloc (.map #[] 0)).heap.size = g + 5 := by simp [s2]
  have m3 : MapOf 96 (w3.alloc (.map #[] 0)) (g + 4) pinV (fun _ => unitV) [] := MapOf.new _ s2 _ _
  generalize w3.alloc (.map #[] 0) = w4 at *
  have a4 : Grow w4 W := by rw [hW]; exact (But.refl _ _).alloc _
  have b4 : Blk W (g + 5) 85 (tcl n n (g + 2) (g + 3) (g + 4) (g + 1)) := by rw [hW]; exact Blk.new s3
  have s4 : W.heap.size = g + 6 := by rw [hW]; simp [s3]
  have kk := a1.trans (a2.trans (a3.trans a4))
  have hl : (St.new n).left = (n : Int) := by show (n : Int) - sums [] = n; rw [sums_nil]; omega
  refine ⟨⟨g + 2, g + 3, g + 4, g + 1, g, fun _ => 0, [], ⟨?_, m1.grow (a2.trans (a3.trans a4)), m2.grow (a3.trans a4), m3.grow a4, .nil, fun _ => Iff.rfl, fun e he => absurd he List.not_mem_nil, h.grow kk, ?_, ?_, ?_, ?_, ?_, ?_, fun e he => absurd he List.not_mem_nil, Sok.new h1 h2, Nat.zero_le _, fun b hb => ?_⟩⟩, k.trans kk⟩
  · rw [hl]; exact b4
  · unfold ownN; rw [if_neg (by omega), if_neg (by omega), if_neg (by omega), if_neg (by omega), if_neg (by omega), if_pos rfl]
  · unfold ownN; rw [if_neg (by omega), if_neg (by omega), if_pos rfl]
  · unfold ownN; rw [if_neg (by omega), if_neg (by omega), if_neg (by omega), if_pos rfl]
  · unfold ownN; rw [if_neg (by omega), if_neg (by omega), if_neg (by omega), if_neg (by omega), if_pos rfl]
  · unfold ownN; rw [if_neg (by omega), if_pos rfl]
  · unfold ownN; rw [if_pos rfl]
  · cases ho : ownN g b with
    | none => rfl
    | _ => have := ownN_ge (g := g) (b := b) (by rw [ho]; exact fun e => nomatch e); omega
/-- What New makes. -/
structure NewF (w : World) (n : Nat) (gt : Nat) (own : Owner) (w' : World) : Prop where
  ft : Ft w' own gt (St.new n)
  new : ∀ b, own b ≠ .none → w.heap.size ≤ b
  grow : Grow w w'
set_option maxRecDepth 100000 in
theorem newheat (w : World) : Calls Try.prog 43 #[.int .i64 16] w fun e w' => e = .returned (.tuple #[.pointer (some ⟨w.heap.size + 1, 0, none⟩), .int .i64 0]) ∧ HtM w' (w.heap.size + 1) w.heap.size 16 0 tnone ∧ Grow w w' ∧ w'.heap.size = w.heap.size + 2 := by
  have HMM := Hid.mk' (mk_mapH w)
  obtain ⟨N, hN⟩ : ∃ N : Int, N = 16 := ⟨_, rfl⟩
  obtain ⟨g, hg⟩ : ∃ g, g = w.heap.size := ⟨_, rfl⟩
  obtain ⟨w1, hw1⟩ : ∃ w1, w1 = w.alloc (.map #[] 0) := ⟨_, rfl⟩
  rw [← hg, ← hw1] at HMM
  have s1 : w1.heap.size = g + 1 := by rw [hw1, hg]; simp
  have k1 : Grow w w1 := by rw [hw1]; exact (But.refl _ w).alloc _
  have m1 : Mq Try.prog 3 w1 g [] := by rw [hw1]; exact Mq.new g hg.symm
  have HF : Hid (HtM (w1.alloc (.cells #[.int .i64 N, .int .i64 0, .map (some g)] 110)) (g + 1) g 16 0 tnone ∧ Grow w (w1.alloc (.cells #[.int .i64 N, .int .i64 0, .map (some g)] 110)) ∧ (w1.alloc (.cells #[.int .i64 N, .int .i64 0, .map (some g)] 110)).heap.size = g + 2) := by
    have k2 : Grow w1 (w1.alloc (.cells #[.int .i64 N, .int .i64 0, .map (some g)] 110)) := (But.refl _ w1).alloc _
    refine ⟨⟨?_, ⟨[], m1.but k2 (fun h => h), fun p hp => absurd hp List.not_mem_nil, fun K b t e => by cases e⟩, by decide, by decide, by omega, Tok.none 0⟩, k1.trans k2, by simp [s1]⟩
    rw [hN]
    exact Blk.new (L := [.int .i64 (16 : Int), .int .i64 0, .map (some g)]) s1
  have HS1 := Hid.mk' s1
  have i1 : ¬ (N < 1) := by omega
  have i2 : ¬ (1000 < N) := by omega
  rw [← hg, ← hN]
  clear hN s1 k1 m1 hw1 hg
  go_enter Try.func43, Try.ntmps43
  go_wp2_with (first
    | (refine wpList_runH rfl (exec_mkMap rfl HMM.out) ?_)
    | fail)
  rw [HS1.out]
  exact bodyPost_ret (results_tmp2 rfl _ _ _) rfl ⟨rfl, HF.out⟩
set_option maxRecDepth 100000 in
theorem newf_any (w : World) (n : Nat) (h1 : 1 ≤ n) (h2 : n ≤ 1024) :
    Calls Try.prog 14 #[.int .i64 (n : Int)] w fun e w' => e = .returned (.tuple #[ptr (w.heap.size + 5), .int .i64 0]) ∧ NewF w n (w.heap.size + 5) (ownN w.heap.size) w' := by
  obtain ⟨N, hN⟩ : ∃ N : Int, N = (n : Int) := ⟨_, rfl⟩
  have HH := Hid.mk' (newheat w)
  obtain ⟨g, hg⟩ : ∃ g, g = w.heap.size := ⟨_, rfl⟩
  have HF : Hid (∀ w1, HtM w1 (g + 1) g 16 0 tnone → Grow w w1 → w1.heap.size = g + 2 → NewF w n (g + 5) (ownN g) ((((w1.alloc (.map #[] 0)).alloc (.map #[] 0)).alloc (.map #[] 0)).alloc (.cells #[.int .i64 N, .int .i64 N, .map (some (g + 2)), .map (some (g + 3)), .map (some (g + 4)), ptr (g + 1)] 85))) := fun w1 a b c => by
    obtain ⟨f1, f2⟩ := Fm.fresh hg a b c h1 h2 rfl
    rw [hN]
    exact ⟨f1, fun b hb => by have := ownN_ge hb; omega, f2⟩
  have i1 : ¬ (N < 1) := by omega
  have i2 : ¬ (1024 < N) := by omega
  rw [← hN, ← hg]
  rw [← hg] at HH
  clear hN h1 h2 hg
  go_enter Try.func14, Try.ntmps14
  go_wp2_with fail
  refine Calls.mono HH.out ?_
  rintro e w1 ⟨rfl, a, b, c⟩
  have HW := Hid.mk' (HF.out w1 a b c)
  have HC := Hid.mk' c
  have s1 : (w1.alloc (.map #[] 0)).heap.size = g + 3 := by simp [c]
  have s2 : ((w1.alloc (.map #[] 0)).alloc (.map #[] 0)).heap.size = g + 4 := by simp [c]
  have R1 := Hid.mk' (mkM w1 81)
  have R2 := Hid.mk' (mkM (w1.alloc (.map #[] 0)) 82)
  have R3 := Hid.mk' (mkM ((w1.alloc (.map #[] 0)).alloc (.map #[] 0)) 83)
  rw [c] at R1
  rw [s1] at R2
  rw [s2] at R3
  clear a b c s1 s2
  go_wp2_with (first
    | (refine wpList_runH rfl (exec_mkMap rfl R1.out) ?_)
    | (refine wpList_runH rfl (exec_mkMap rfl R2.out) ?_)
    | (refine wpList_runH rfl (exec_mkMap rfl R3.out) ?_)
    | fail)
  rw [HC.out]
  exact bodyPost_ret (results_tmp2 rfl _ _ _) rfl ⟨rfl, HW.out⟩
end Go.Proofs.Ytmlklmhochihbaa
/- frames: Victim. -/
namespace Go.Proofs.Ytmlklmhochihbaa
open Go.RowKit Go.Maps

set_option maxRecDepth 100000 in
set_option maxHeartbeats 1000000 in
theorem victim_nil (w : World) : Calls Try.prog 22 #[.pointer none] w fun e w' => e = .returned (.tuple #[.int .i64 0, .int .i64 5]) ∧ Grow w w' := by
  go_enter Try.func22, Try.ntmps22
  go_upto_region 1 with fail
  refine region_chain [] [0, 1, 2, 3, 4, 5, 6, 7, 8, 9, 10, 11, 12, 13] (Grow w) (Grow w) (by kernel_rfl) (by kernel_rfl) (fun _ _ h k => h.trans k) (fun _ h => h) ((But.refl _ w).drew) ?_
  intro ι hne X hX
  iterate 14 (refine still_step rfl (fun K hK => ?_); go_simp; refine hK _ ?_; clear hK K)
  refine still_nil ?_
  clear hX hne
  intro w2 hw2
  have HW2 := Hid.mk' hw2
  clear hw2
  go_wp2
  exact bodyPost_ret (results_tmp2 rfl _ _ _) rfl ⟨rfl, HW2.out⟩
section
variable {w w' : World} {own own' : Owner} {gt gr gf gp gh gm : Nat} {fb : Int → Nat} {PL : List (Int × Int)} {s s' : St} {R : Nat → Prop}
theorem St.loose_le (h : Sok s) : s.loose.length ≤ 1024 := by
  have h1 : s.loose.length ≤ s.keys.length := List.length_filter_le _ _
  have h2 : s.keys.length = s.fr.length := by unfold St.keys; rw [List.length_map]
  have := h.le
  have := h.m2
  omega
set_option maxRecDepth 100000 in
set_option maxHeartbeats 4000000 in
theorem victim_any (h : Ft w own gt s) : Calls Try.prog 22 #[ptr gt] w fun e w' => e = .returned (.tuple #[.int .i64 s.vic, .int .i64 s.vicc]) ∧ Grow w w' := by
  obtain ⟨gr, gf, gp, gh, gm, fb, PL, h⟩ := h
  have HH := Hid.mk' h
  have HLEN : Hid (∀ w', Grow w w' → ∀ ty, (Builtin.len_ #[82] ty #[.map (some gf)]).run Try.prog w' = .ok (.int .i64 (s.fr.length : Int)) w') := fun w' k ty => (h.grow k).lenRun ty
  have HBK := Hid.mk' h.blk
  have HLL := Hid.mk' (St.loose_le h.ok)
  obtain ⟨n, hnn⟩ : ∃ n, n = s.fr.length := ⟨_, rfl⟩
  obtain ⟨m, hmm⟩ : ∃ m, m = s.most := ⟨_, rfl⟩
  have HV : Hid (s.vicc = (if n < m then 5 else if s.loose = [] then 12 else 0) ∧ s.vic = (if n < m then 0 else if s.loose = [] then 0 else coldest s.heat s.loose)) := by rw [hnn, hmm]; exact ⟨rfl, rfl⟩
  have hm2 : (m : Int) ≤ 1024 := by have := h.ok.m2; omega
  have hn2 : (n : Int) ≤ 1024 := by have := h.ok.le; omega
  rw [← hnn] at HLEN
  rw [← hmm] at HBK
  generalize s.left = L at HBK
  clear h hnn hmm
  by_cases hlt : n < m
  · have hlti : (n : Int) < (m : Int) := by omega
    have HV2 : Hid (s.vicc = 5 ∧ s.vic = 0) := by have := HV.out; rw [if_pos hlt, if_pos hlt] at this; exact this
    rw [HV2.out.1, HV2.out.2]
    clear hlt
    go_enter Try.func22, Try.ntmps22
    go_upto_region 1 with fail
    refine region_chain [] [0, 1, 2, 3, 4, 5, 6, 7, 8, 9, 10, 11, 12, 13] (Grow w) (Grow w) (by kernel_rfl) (by kernel_rfl) (fun _ _ h k => h.trans k) (fun _ h => h) ((But.refl _ w).drew) ?_
    intro ι hne X hX
    have d0 : ∀ x, (X x).cell? ⟨gt, 0, none⟩ = some (.int .i64 (m : Int)) := fun x => (HBK.out.but (hX x) (fun h => h)).cell 0
    have d3 : ∀ x, (X x).cell? ⟨gt, 3, none⟩ = some (.map (some gf)) := fun x => (HBK.out.but (hX x) (fun h => h)).cell 3
    iterate 7 (refine still_step rfl (fun K hK => ?_); go_simp; refine hK _ ?_; clear hK K)
    refine still_val rfl (.int .i64 (n : Int)) rfl (fun z => exec_lenM rfl rfl (HLEN.out _ (hX z) _)) ?_
    intro K hK; go_simp; refine hK _ ?_; clear hK K
    iterate 6 (refine still_step rfl (fun K hK => ?_); go_simp; refine hK _ ?_; clear hK K)
    refine still_nil ?_
    clear hX hne d0 d3
    intro w2 hw2
    have HW2 := Hid.mk' hw2
    clear hw2
    go_wp2
    exact bodyPost_ret (results_tmp2 rfl _ _ _) rfl ⟨rfl, HW2.out⟩
  · have hlti : ¬ ((n : Int) < (m : Int)) := by omega
    have HV2 : Hid (s.vicc = (if s.loose = [] then 12 else 0) ∧ s.vic = (if s.loose = [] then 0 else coldest s.heat s.loose)) := by have := HV.out; rw [if_neg hlt, if_neg hlt] at this; exact this
    clear hlt HV
    go_enter Try.func22, Try.ntmps22
    go_upto_region 1 with fail
    refine region_chain [] [0, 1, 2, 3, 4, 5, 6, 7, 8, 9, 10, 11, 12, 13] (Grow w) (Grow w) (by kernel_rfl) (by kernel_rfl) (fun _ _ h k => h.trans k) (fun _ h => h) ((But.refl _ w).drew) ?_
    intro ι hne X hX
    have d0 : ∀ x, (X x).cell? ⟨gt, 0, none⟩ = some (.int .i64 (m : Int)) := fun x => (HBK.out.but (hX x) (fun h => h)).cell 0
    have d3 : ∀ x, (X x).cell? ⟨gt, 3, none⟩ = some (.map (some gf)) := fun x => (HBK.out.but (hX x) (fun h => h)).cell 3
    iterate 7 (refine still_step rfl (fun K hK => ?_); go_simp; refine hK _ ?_; clear hK K)
    refine still_val rfl (.int .i64 (n : Int)) rfl (fun z => exec_lenM rfl rfl (HLEN.out _ (hX z) _)) ?_
    intro K hK; go_simp; refine hK _ ?_; clear hK K
    iterate 6 (refine still_step rfl (fun K hK => ?_); go_simp; refine hK _ ?_; clear hK K)
    refine still_nil ?_
    clear hX hne d0 d3
    intro w1 hw1
    have HG1 := Hid.mk' hw1
    have h1 := HH.out.grow hw1
    obtain ⟨w2, hrg, hg2, hsz2, hR2⟩ := h1.frm.range (t := 82) (et := 86) Try.underlying82 h1.kd
    obtain ⟨r, hr⟩ : ∃ r, r = w1.heap.size := ⟨_, rfl⟩
    rw [← hr] at hrg hR2
    have HRG := Hid.mk' hrg
    have HRW : Hid (w.heap.size ≤ r) := by rw [hr]; exact hw1.size
    have HR2 := Hid.mk' hR2
    have HG2 := Hid.mk' (hw1.trans hg2)
    have c3 : w1.cell? ⟨gt, 3, none⟩ = some (.map (some gf)) := (HBK.out.but hw1 (fun h => h)).cell 3
    clear hw1 h1 hrg hg2 hsz2 hR2 hr HLEN hlti
    go_wp2_with (first
      | (refine wpList_runH rfl (exec_range rfl rfl HRG.out) ?_)
      | fail)
    clear c3
    refine act_down (fun K hK => ?_)
    go_simp
    refine hK _ ?_
    clear hK K
    go_loopw [4, 5, 6] (fun v4 _ _ wr => ∃ (u4 : Value) (lf A : List Int), u4 = v4 ∧ Ranged 3 wr r gf iv (fun k => ptr (fb k)) s.keys lf ∧ wr.ownsRow 0 3 1 u4 A.length (numv A) ∧ (∀ k, u4.ownBlock = some k → r < k) ∧ (A ++ lf.filter (fun k => !s.pinned k)).Perm s.loose ∧ Grow w wr) (fun _ _ _ wr => leftN wr r gf)
    case atStart => exact ⟨_, s.keys, [], rfl, HR2.out, World.ownsRow_nil _ _ _ _, (fun k hk => by cases hk), List.Perm.refl _, HG2.out⟩
    case round =>
      clear HR2 HG2 HRG HG1
      obtain ⟨v4, lf, A, rfl, hR, hA, hAk, hP, hG⟩ := hrel
      have HAL : Hid (A.length ≤ 1024) := by
        have := hP.length_eq
        rw [List.length_append] at this
        have := HLL.out
        show A.length ≤ 1024
        omega
      have HG := Hid.mk' hG
      rcases hR.next 0 with ⟨rfl, hnx⟩ | ⟨x, lf', w3, hx, hperm, hnx, hb3, hsz3, hR3, hent⟩
      · have HNX := Hid.mk' hnx
        rw [List.filter_nil, List.append_nil] at hP
        have hFr := HH.out.grow hG
        have c5 : wr.cell? ⟨gt, 5, none⟩ = some (ptr gh) := hFr.blk.cell 5
        have hi : ∀ x ∈ A, i64 x := fun x hx => by
          have h1 := hP.mem_iff.1 hx
          unfold St.loose St.keys at h1
          obtain ⟨e, he, rfl⟩ := List.mem_map.1 (List.mem_filter.1 h1).1
          exact (HH.out.ok.ik e he).1
        have hN : Nums wr v4 A := Nums.ofRow hA hi (by have := HAL.out; omega)
        have HO := Hid.mk' (ofs_any hFr.ht)
        obtain ⟨va, vn, vk, rfl⟩ : ∃ a n k, v4 = .slice a n k := by obtain ⟨-, ⟨e, -⟩ | ⟨g', c', cu, e, -⟩⟩ := hA <;> exact ⟨_, _, _, e⟩
        by_cases h0 : A = []
        · have hl : s.loose = [] := by subst h0; exact (List.Perm.nil_eq hP).symm
          rw [if_pos hl, if_pos hl] at HV2
          have HC := Hid.mk' (coldest_none wr (ptr gh) (.slice va vn vk) (by
            obtain ⟨ao, cap, e⟩ := hN.len
            rw [h0] at e
            exact ⟨ao, cap, e⟩))
          clear hnx hR hA hAk hP hG hFr hi hN h0 hl
          go_wp2_with (first
            | (refine wpList_runH rfl (exec_next rfl rfl rfl HNX.out) ?_)
            | fail)
          refine Calls.mono HC.out ?_
          rintro e w4 ⟨rfl, hw⟩
          have h4 := hw.symm
          subst h4
          clear hw
          go_wp2
          exact bodyPost_ret (results_tmp2 rfl _ _ _) rfl ⟨by rw [HV2.out.1, HV2.out.2]; rfl, HG.out⟩
        · have hl : ¬ (s.loose = []) := fun e => h0 (by rw [e] at hP; exact hP.eq_nil)
          rw [if_neg hl, if_neg hl] at HV2
          rw [← coldest_perm s.heat hP] at HV2
          have HC := Hid.mk' (coldest_some HO.out hN (by cases A with | nil => exact absurd rfl h0 | cons a l => simp))
          have HHE : Hid (hof 16 s.now (look s.hl) = s.heat) := rfl
          rw [HHE.out] at HC
          generalize coldest s.heat A = q at *
          clear hnx hR hA hAk hP hG hFr hi hN h0 hl HO HHE
          go_wp2_with (first
            | (refine wpList_runH rfl (exec_next rfl rfl rfl HNX.out) ?_)
            | fail)
          refine Calls.mono HC.out ?_
          rintro e w4 ⟨rfl, hg4⟩
          have HG4 := Hid.mk' (HG.out.trans hg4)
          clear hg4
          go_wp2
          exact bodyPost_ret (results_tmp2 rfl _ _ _) rfl ⟨by rw [HV2.out.1, HV2.out.2]; rfl, HG4.out⟩
      · have HNX := Hid.mk' hnx
        have HENT := Hid.mk' hent
        have hG3 : Grow w w3 := hG.then hb3 (fun i hi e => by have := HRW.out; omega)
        have HG3 := Hid.mk' hG3
        have HR3 := Hid.mk' hR3
        have HLT : Hid (leftN w3 r gf < leftN wr r gf) := by
          show _ < _
          rw [hR3.left, hR.left, hperm.length_eq]
          simp
        have HLE : Hid (∀ W, Grow w3 W → Ranged 3 W r gf iv (fun k => ptr (fb k)) s.keys lf' ∧ leftN W r gf < leftN wr r gf) := fun W k => by
          have h1 := HR3.out.grow k
          refine ⟨h1, ?_⟩
          have h2 := HLT.out
          rw [HR3.out.left] at h2
          rw [h1.left]; exact h2
        have hFr := HH.out.grow hG3
        unfold St.keys at hx
        obtain ⟨e0, he0, rfl⟩ := List.mem_map.1 hx
        obtain ⟨v, hb0, -⟩ := hFr.each e0 he0
        have hpn := hFr.pinned e0.1
        obtain ⟨N, hN⟩ : ∃ N : Int, N = (cnt PL e0.1 : Int) := ⟨_, rfl⟩
        have c2 : w3.cell? ⟨fb e0.1, 2, none⟩ = some (.int .i64 N) := by rw [hN]; exact hb0.cell 2
        have hP2 : (A ++ (e0.1 :: lf').filter (fun k => !s.pinned k)).Perm s.loose := ((hperm.filter _).append_left A).symm.trans hP
        have hAR : w3.ownsRow 0 3 1 v4 A.length (numv A) := ownsRow_but hA hb3 (fun k hk e => by have := hAk k hk; omega)
        have HAR := Hid.mk' hAR
        have HAK := Hid.mk' hAk
        obtain ⟨va, vn, vk, rfl⟩ : ∃ a n k, v4 = .slice a n k := by obtain ⟨-, ⟨e, -⟩ | ⟨g', c', cu, e, -⟩⟩ := hA <;> exact ⟨_, _, _, e⟩
        cases hp : s.pinned e0.1 with
        | true =>
          rw [hp] at hpn
          have hN0 : (N == 0) = false := by
            have := of_decide_eq_true hpn
            have h9 : N ≠ 0 := by omega
            simpa using h9
          rw [List.filter_cons, hp] at hP2
          have HP2 : Hid ((A ++ lf'.filter (fun k => !s.pinned k)).Perm s.loose) := hP2
          generalize e0.1 = K at *
          generalize fb K = g at *
          clear hnx hent hR hA hAk hP hG hG3 hFr hx he0 hb0 hpn hN hP2 hAR hp hperm hb3 hsz3 hR3
          go_wp2_with (first
            | (refine wpList_runH rfl (exec_next rfl rfl rfl HNX.out) ?_)
            | (refine wpList_runH rfl (exec_entry rfl rfl HENT.out) ?_)
            | fail)
          go_roundw
          case rel => exact ⟨_, lf', A, rfl, (HLE.out _ (But.refl _ _)).1, HAR.out, HAK.out, HP2.out, HG3.out⟩
          case measure => exact (HLE.out _ (But.refl _ _)).2
        | false =>
          rw [hp] at hpn
          have hN0 : (N == 0) = true := by
            have := of_decide_eq_false hpn
            have h9 : N = 0 := by omega
            simpa using h9
          rw [List.filter_cons, hp] at hP2
          have HP2 : Hid (((A ++ [e0.1]) ++ lf'.filter (fun k => !s.pinned k)).Perm s.loose) := by
            show List.Perm _ _
            rw [List.append_assoc]; exact hP2
          have HAL3 : Hid (Grow w3 (w3.alloc (.cells #[.int .i64 e0.1] 3))) := (But.refl _ w3).alloc _
          have HBL : Hid (Blk (w3.alloc (.cells #[.int .i64 e0.1] 3)) w3.heap.size 3 (numv [e0.1])) := Blk.new (L := [.int .i64 e0.1]) rfl
          generalize e0.1 = K at *
          generalize fb K = g at *
          clear hnx hent hR hA hAk hP hG hG3 hFr hx he0 hb0 hpn hN hP2 hAR hp hperm hb3 hsz3 hR3
          go_wp2_with (first
            | (refine wpList_runH rfl (exec_next rfl rfl rfl HNX.out) ?_)
            | (refine wpList_runH rfl (exec_entry rfl rfl HENT.out) ?_)
            | (refine wpList_runH rfl (exec_row1 Try.underlying40 infNum (by decide) (by decide) rfl rfl rfl) ?_)
            | (refine wpList_someH rfl (exec_append (v := .slice va vn vk) (n := A.length) (xs := numv A) (news := numv [K]) Try.underlying40 infNum rfl (by decide) rfl rfl (ownsRow_grow HAR.out HAL3.out) rfl rfl (fun j u hj => HBL.out.cells0 j u hj) (fun u hu => by rw [show u = .int .i64 K by simpa [numv] using hu]; rfl) (by have := HAL.out; omega) (by decide)) ?_; intro v5 w5 hap)
            | fail)
          have hk5 : But (fun b => (.slice va vn vk : Value).ownBlock = some b) w3 w5 := (HAL3.out.mono (fun _ _ h => h.elim)).trans hap.but
          have hgf := (HH.out.frm).lt
          have hR5 := HR3.out.but hk5 (fun e => by have := HAK.out r e; omega) (fun e => by have := HAK.out gf e; have := HRW.out; omega)
          have h2 := HLT.out
          rw [HR3.out.left] at h2
          refine ⟨⟨v5, lf', A ++ [K], rfl, hR5, ?_, fun k hk => ?_, HP2.out, HG3.out.then hk5 (fun i hi e => by have := HAK.out i e; have := HRW.out; omega)⟩, ?_⟩
          · rw [List.length_append, List.length_singleton, show numv (A ++ [K]) = numv A ++ numv [K] by simp [numv]]
            exact hap.own
          · rcases hap.at' with e | e
            · exact HAK.out k (by rw [← e]; exact hk)
            · rw [e] at hk
              have hk' := Option.some.inj hk
              have := HR3.out.lt.1
              have := HAL3.out.size
              omega
          · rw [hR5.left]; exact h2
end
end Go.Proofs.Ytmlklmhochihbaa
/- slices.Sort of ints, off the library's shelf. -/
namespace Go.Proofs.Ytmlklmhochihbaa
open Go.RowKit

def renS : Shelf.Ren := ⟨fun x => if x = 5 then 60 else if x = 8 then 70 else if x = 7 then 69 else if x = 19 then 86 else if x = 20 then 87 else if x = 10 then 77 else if x = 11 then 78 else if x = 12 then 79 else if x = 13 then 80 else if x = 14 then 81 else if x = 15 then 82 else if x = 16 then 83 else if x = 17 then 84 else if x = 18 then 85 else if x = 30 then 96 else if x = 31 then 97 else if x = 32 then 98 else if x = 33 then 99 else if x = 34 then 100 else if x = 35 then 101 else if x = 40 then 103 else x, fun x => if x = 23 then 40 else if x = 25 then 3 else if x = 3 then 3 else if x = 32 then 119 else if x = 22 then 40 else if x = 0 then 0 else if x = 44 then 130 else if x = 46 then 132 else if x = 4 then 4 else if x = 36 then 124 else if x = 35 then 123 else if x = 41 then 99 else if x = 5 then 5 else if x = 9 then 9 else if x = 53 then 137 else if x = 57 then 141 else if x = 63 then 143 else if x = 64 then 75 else x, fun x => x⟩
theorem laysS : SlLaysM.n5 Try.prog renS where
  mixed := by kernel_rfl
  f5 := ⟨ "slices.Sort[[]int,int]", by decide, by kernel_rfl⟩
  f7 := ⟨ "slices.pdqsortOrdered[int]", by decide, by kernel_rfl⟩
  f8 := by kernel_rfl
  f10 := ⟨ "slices.insertionSortOrdered[int]", by decide, by kernel_rfl⟩
  f11 := ⟨ "slices.heapSortOrdered[int]", by decide, by kernel_rfl⟩
  f12 := ⟨ "slices.breakPatternsOrdered[int]", by decide, by kernel_rfl⟩
  f13 := ⟨ "slices.choosePivotOrdered[int]", by decide, by kernel_rfl⟩
  f14 := ⟨ "slices.reverseRangeOrdered[int]", by decide, by kernel_rfl⟩
  f15 := ⟨ "slices.partialInsertionSortOrdered[int]", by decide, by kernel_rfl⟩
  f16 := ⟨ "cmp.Less[int]", by decide, by kernel_rfl⟩
  f17 := ⟨ "slices.partitionEqualOrdered[int]", by decide, by kernel_rfl⟩
  f18 := ⟨ "slices.partitionOrdered[int]", by decide, by kernel_rfl⟩
  f19 := by kernel_rfl
  f20 := by kernel_rfl
  f30 := ⟨ "slices.siftDownOrdered[int]", by decide, by kernel_rfl⟩
  f31 := by kernel_rfl
  f32 := by kernel_rfl
  f33 := ⟨ "slices.medianAdjacentOrdered[int]", by decide, by kernel_rfl⟩
  f34 := ⟨ "slices.medianOrdered[int]", by decide, by kernel_rfl⟩
  f35 := ⟨ "cmp.isNaN[int]", by decide, by kernel_rfl⟩
  f40 := ⟨ "slices.order2Ordered[int]", by decide, by kernel_rfl⟩
  t0 := by kernel_rfl
  a0 := fun _ => by kernel_rfl
  z0 := fun _ => by kernel_rfl
  v0 := fun _ => by kernel_rfl
  t3 := by kernel_rfl
  a3 := fun _ => by kernel_rfl
  z3 := fun _ => by kernel_rfl
  v3 := fun _ => by kernel_rfl
  t4 := by kernel_rfl
  a4 := fun _ => by kernel_rfl
  z4 := fun _ => by kernel_rfl
  v4 := fun _ => by kernel_rfl
  t5 := by kernel_rfl
  a5 := fun _ => by kernel_rfl
  z5 := fun _ => by kernel_rfl
  v5 := fun _ => by kernel_rfl
  t9 := by kernel_rfl
  a9 := fun _ => by kernel_rfl
  z9 := fun _ => by kernel_rfl
  v9 := fun _ => by kernel_rfl
  t22 := by kernel_rfl
  a22 := fun _ => by kernel_rfl
  z22 := fun _ => by kernel_rfl
  v22 := fun _ => by kernel_rfl
  t23 := by kernel_rfl
  a23 := fun _ => by kernel_rfl
  z23 := fun _ => by kernel_rfl
  v23 := fun _ => by kernel_rfl
  t25 := by kernel_rfl
  a25 := fun _ => by kernel_rfl
  z25 := fun _ => by kernel_rfl
  v25 := fun _ => by kernel_rfl
  t32 := by kernel_rfl
  a32 := fun _ => by kernel_rfl
  z32 := fun _ => by kernel_rfl
  v32 := fun _ => by kernel_rfl
  t35 := by kernel_rfl
  a35 := fun _ => by kernel_rfl
  z35 := fun _ => by kernel_rfl
  v35 := fun _ => by kernel_rfl
  t36 := by kernel_rfl
  a36 := fun _ => by kernel_rfl
  z36 := fun _ => by kernel_rfl
  v36 := fun _ => by kernel_rfl
  t41 := by kernel_rfl
  a41 := fun _ => by kernel_rfl
  z41 := fun _ => by kernel_rfl
  v41 := fun _ => by kernel_rfl
  t44 := by kernel_rfl
  a44 := fun _ => by kernel_rfl
  z44 := fun _ => by kernel_rfl
  v44 := fun _ => by kernel_rfl
  t46 := by kernel_rfl
  a46 := fun _ => by kernel_rfl
  z46 := fun _ => by kernel_rfl
  v46 := fun _ => by kernel_rfl
  t53 := by kernel_rfl
  a53 := fun _ => by kernel_rfl
  z53 := fun _ => by kernel_rfl
  v53 := fun _ => by kernel_rfl
  t57 := by kernel_rfl
  a57 := fun _ => by kernel_rfl
  z57 := fun _ => by kernel_rfl
  v57 := fun _ => by kernel_rfl
  t63 := by kernel_rfl
  a63 := fun _ => by kernel_rfl
  z63 := fun _ => by kernel_rfl
  v63 := fun _ => by kernel_rfl
  t64 := by kernel_rfl
  a64 := fun _ => by kernel_rfl
  z64 := fun _ => by kernel_rfl
  v64 := fun _ => by kernel_rfl
end Go.Proofs.Ytmlklmhochihbaa
/- frames: Keys: all keys of a map, sorted, off the library's shelf. -/
namespace Go.Proofs.Ytmlklmhochihbaa
open Go.RowKit Go.Maps Go.Sort Go.Shelf

def renK : Shelf.Ren := ⟨fun x => if x = 7 then 48 else if x = 10 then 61 else if x = 6 then 47 else if x = 8 then 59 else if x = 9 then 60 else if x = 11 then 68 else x, fun x => if x = 23 then 82 else if x = 26 then 3 else if x = 3 then 86 else if x = 28 then 92 else if x = 27 then 91 else if x = 33 then 55 else if x = 4 then 4 else if x = 24 then 40 else x, fun x => x⟩
theorem laysK7 : SlLaysZI.n7 Try.prog renK where
  mixed := by kernel_rfl
  f7 := ⟨ "maps.Keys[map[int]*thimble/frames.frame,int,*thimble/frames.frame]", by decide, by kernel_rfl⟩
  f10 := ⟨ "maps.Keys[map[int]*thimble/frames.frame,int,*thimble/frames.frame]$1", by decide, by kernel_rfl⟩
  t0 := by kernel_rfl
  a0 := fun _ => by kernel_rfl
  z0 := fun _ => by kernel_rfl
  v0 := fun _ => by kernel_rfl
  t4 := by kernel_rfl
  a4 := fun _ => by kernel_rfl
  z4 := fun _ => by kernel_rfl
  v4 := fun _ => by kernel_rfl
  t23 := by kernel_rfl
  a23 := fun _ => by kernel_rfl
  z23 := fun _ => by kernel_rfl
  v23 := fun _ => by kernel_rfl
  t26 := by kernel_rfl
  a26 := fun _ => by kernel_rfl
  z26 := fun _ => by kernel_rfl
  v26 := fun _ => by kernel_rfl
  t27 := by kernel_rfl
  a27 := fun _ => by kernel_rfl
  z27 := fun _ => by kernel_rfl
  v27 := fun _ => by kernel_rfl
  t28 := by kernel_rfl
  a28 := fun _ => by kernel_rfl
  z28 := fun _ => by kernel_rfl
  v28 := fun _ => by kernel_rfl
  t33 := by kernel_rfl
  a33 := fun _ => by kernel_rfl
  z33 := fun _ => by kernel_rfl
  v33 := fun _ => by kernel_rfl
theorem laysK6 : SlLaysZI.n6 Try.prog renK where
  mixed := by kernel_rfl
  f6 := ⟨ "slices.Sorted[int]", by decide, by kernel_rfl⟩
  f8 := ⟨ "slices.Collect[int]", by decide, by kernel_rfl⟩
  f11 := ⟨ "slices.AppendSeq[[]int,int]", by decide, by kernel_rfl⟩
  t0 := by kernel_rfl
  a0 := fun _ => by kernel_rfl
  z0 := fun _ => by kernel_rfl
  v0 := fun _ => by kernel_rfl
  t24 := by kernel_rfl
  a24 := fun _ => by kernel_rfl
  z24 := fun _ => by kernel_rfl
  v24 := fun _ => by kernel_rfl
  t26 := by kernel_rfl
  a26 := fun _ => by kernel_rfl
  z26 := fun _ => by kernel_rfl
  v26 := fun _ => by kernel_rfl
  t28 := by kernel_rfl
  a28 := fun _ => by kernel_rfl
  z28 := fun _ => by kernel_rfl
  v28 := fun _ => by kernel_rfl
  i26 := by kernel_rfl
theorem sortsK (m : Nat) : AnyZI.SortsIn Try.prog renK Fence.wide m :=
  ⟨fun blk off cap ss W hH hblk hsz => callsIn_wide.2 (AnyM.slices_Sort_int laysS blk off cap ss W hH hblk hsz),
   fun p cap W => callsIn_wide.2 (AnyM.slices_Sort_int_none laysS p cap W)⟩
def anyR (_ : Value) : Option (DataW Unit × List MemPlace) := some (.lit (.bool true), [])
theorem insert_perm {H : Type} (x : Lit × DataW H) : ∀ l : List (Lit × DataW H), (DataW.insert x l).Perm (x :: l)
  | [] => by unfold DataW.insert; exact List.Perm.refl _
  | y :: r => by
    unfold DataW.insert
    split
    · exact List.Perm.refl _
    · exact ((insert_perm x r).cons y).trans (List.Perm.swap _ _ _)
theorem foldr_perm {H : Type} : ∀ l : List (Lit × DataW H), (l.foldr DataW.insert []).Perm l
  | [] => List.Perm.refl _
  | x :: l => (insert_perm x _).trans ((foldr_perm l).cons x)
/-- A map's keys as the shelf reads them. -/
theorem MapOf.owns {w : World} {b : Nat} {vv : Int → Value} {l : List Int} (h : MapOf 3 w b iv vv l) (hn : l.Nodup) (hl : l.length ≤ 1000000) : ∃ D : DataW Unit, w.ownsMap Try.prog 3 anyR b l.length D ∧ (intKeys D).Perm l ∧ Maps.size D = l.length := by
  obtain ⟨M, h1, h2, h3⟩ := h
  have hkn : (l.map iv).Nodup := nodup_map (fun _ _ _ _ e => iv_inj e) hn
  have hsz := MapOf.size h1 h2 h3 hkn
  have hap := h1.apart
  have hky := h1.key
  obtain ⟨es, clock, hb, rfl, hbo, hnd⟩ := h1.blk
  have hesz : es.size = l.length := by rw [← hsz]; simp
  have hfit : WideElems.Fit Try.prog 3 anyR es clock := ⟨by unfold maxLen; omega, (MapKept.stamped_iff es clock).2 ⟨hbo, hnd, (List.pairwise_map.1 hap).imp (fun h => h)⟩, fun x hx => by
    obtain ⟨lt, hlt⟩ := hky (x.key, x.val) (List.mem_map.2 ⟨x, hx, rfl⟩)
    exact ⟨_, WideElems.rd_mk (born := x.born) hlt (yv := (.lit (.bool true), [])) rfl⟩⟩
  have hmap : (es.toList.map (WideElems.rg Try.prog 3 anyR)).map (fun p => Go.intOf p.1) = (es.toList.map fun e => (e.key, e.val)).map (fun p => match p.1 with | .int _ a => a | _ => 0) := by
    rw [List.map_map, List.map_map]
    apply List.map_congr_left
    intro x hx
    obtain ⟨k, hk, e⟩ := h2 (x.key, x.val) (List.mem_map.2 ⟨x, hx, rfl⟩)
    have e1 : x.key = iv k := (Prod.mk.inj e).1
    obtain ⟨lt, hlt⟩ := hky (x.key, x.val) (List.mem_map.2 ⟨x, hx, rfl⟩)
    obtain ⟨y, ey, rfl, -⟩ := Maps.keyOf_i64 Try.underlying3 hlt
    have hrd : WideElems.rd Try.prog 3 anyR x = some (.int .i64 y, .lit (.bool true)) := WideElems.rd_mk (born := x.born) hlt (yv := (.lit (.bool true), [])) rfl
    simp only [Function.comp]
    rw [WideElems.rg_of hrd]
    simp only at ey
    rw [ey]
    rfl
  refine ⟨_, ⟨es, clock, hb, hfit, by omega, rfl⟩, ?_, ?_⟩
  · show List.Perm (List.map _ _) _
    refine ((foldr_perm _).map _).trans ?_
    rw [hmap]
    have hkk : ((es.toList.map fun e => (e.key, e.val)).map (fun p : Value × Value => match p.1 with | .int _ a => a | _ => 0)).Nodup := by
      refine List.pairwise_map.2 (hap.imp_of_mem (fun {p q} hp hq hne e => hne ?_))
      obtain ⟨a, -, rfl⟩ := h2 p hp
      obtain ⟨c, -, rfl⟩ := h2 q hq
      simp only at e
      rw [e]
    refine (List.perm_ext_iff_of_nodup hkk hn).2 (fun x => ⟨fun hx => ?_, fun hx => ?_⟩)
    · obtain ⟨p, hp, rfl⟩ := List.mem_map.1 hx
      obtain ⟨a, ha, rfl⟩ := h2 p hp
      exact ha
    · exact List.mem_map.2 ⟨_, h3 x hx, rfl⟩
  · show List.length _ = _
    rw [(foldr_perm _).length_eq, List.length_map]
    simpa using hesz
theorem keys_nil (w : World) : Calls Try.prog 17 #[.pointer none] w fun e w' => e = .returned (.slice none 0 0) ∧ w' = w := by
  go_enter Try.func17, Try.ntmps17
  go_wp2
  go_ret
  exact ⟨rfl, rfl⟩
/-- All keys, rising. -/
def St.rising (s : St) : List Int := s.keys.mergeSort (fun x y => decide (x ≤ y))
structure KeysF (w : World) (s : St) (v : Value) (w' : World) : Prop where
  own : w'.ownsRow w.heap.size 3 1 v s.rising.length (numv s.rising)
  grow : Grow w w'
section
variable {w w' : World} {own own' : Owner} {gt gr gf gp gh gm : Nat} {fb : Int → Nat} {PL : List (Int × Int)} {s s' : St} {R : Nat → Prop}
set_option maxRecDepth 100000 in
theorem keys_any (h : Ft w own gt s) : Calls Try.prog 17 #[ptr gt] w fun e w' => ∃ v, e = .returned v ∧ KeysF w s v w' := by
  obtain ⟨gr, gf, gp, gh, gm, fb, PL, h⟩ := h
  have hkl : s.keys.length ≤ 1024 := by
    have h2 : s.keys.length = s.fr.length := by unfold St.keys; rw [List.length_map]
    have := h.ok.le
    have := h.ok.m2
    omega
  obtain ⟨D, hown, hperm, hsize⟩ := h.frm.owns h.ok.nd (by omega)
  have hbl := hown.lt
  have hseq : SeqGives Fence.wide 2 Try.prog 61 #[.pointer (some ⟨w.heap.size, 0, none⟩)] encZ (fun ss => ss.Perm (intKeys D)) (Maps.size D) (w.alloc (.cells #[.map (some gf)] 82)) :=
    AnyZI.keys_gives (ρ := renK) { laysK7 with } Fence.wide _ trivial rfl (by omega) w.heap.size gf s.keys.length D _ (by simp) (by simp) (by
      obtain ⟨es, clock, hb, Ft, hs, hD⟩ := hown
      exact ⟨es, clock, (Below.heap_alloc _ _ gf hbl).trans hb, Ft, hs, hD⟩)
  have cK : Calls Try.prog 48 #[.map (some gf)] w fun e w' => e = .returned (.func (.func 61) #[] #[.pointer (some ⟨w.heap.size, 0, none⟩)]) ∧ w' = w.alloc (.cells #[.map (some gf)] 82) := callsIn_wide.1 (AnyZI.keys_in laysK7 Fence.wide 5 trivial rfl (some gf) w)
  have cS := callsIn_wide.1 (AnyZI.sorted_in laysK6 Fence.wide 5 trivial trivial trivial trivial rfl (by omega) (sortsK _) (enters_of Try.func60 (by kernel_rfl) rfl) 61 #[.pointer (some ⟨w.heap.size, 0, none⟩)] trivial (enters_of Try.func61 (by kernel_rfl) rfl) _ _ (by rw [hsize]; unfold maxLen; omega) (by rw [hsize]; omega) _ hseq)
  change Calls Try.prog 47 _ _ _ at cS
  have c3 : w.cell? ⟨gt, 3, none⟩ = some (.map (some gf)) := h.blk.cell 3
  have HK := Hid.mk' cK
  have HS := Hid.mk' cS
  have HP := Hid.mk' hperm
  have HGA : Hid (Grow w (w.alloc (.cells #[.map (some gf)] 82))) := (But.refl _ w).alloc _
  clear cK cS hseq hperm hsize hown hbl h hkl
  go_enter Try.func17, Try.ntmps17
  go_wp2_with fail
  refine Calls.mono HK.out ?_
  rintro e w1 ⟨rfl, rfl⟩
  go_wp2_with fail
  refine Calls.mono HS.out ?_
  rintro e w2 ⟨v, ss, rfl, hS, hrow, hnil, hb⟩
  have HFIN : Hid (KeysF w s v w2) := by
    have hms : ss.mergeSort (fun x y => decide (x ≤ y)) = s.rising := mergeSort_of_perm_i (hS.trans HP.out)
    have hlen : ss.length = s.rising.length := by rw [← hms]; simp
    refine ⟨?_, HGA.out.trans (But.of hb)⟩
    rw [← hlen, ← hms]
    exact ownsRow_base_a hrow (by simp)
  obtain ⟨va, vn, vk, rfl⟩ : ∃ a n k, v = .slice a n k := by obtain ⟨-, ⟨e, -⟩ | ⟨g', c', cu, e, -⟩⟩ := HFIN.out.own <;> exact ⟨_, _, _, e⟩
  clear hS hrow hnil hb
  go_wp2
  go_ret
  exact ⟨_, rfl, HFIN.out⟩
end
end Go.Proofs.Ytmlklmhochihbaa
/- Operations of a guard that does not hold, passed by at once: use it on the act as a variable, ahead of go_simp. -/
namespace Go.Proofs.Ytmlklmhochihbaa
open Go.RowKit

section
variable {P : Program} {ops : Array Oper} {ι : Type} {W : ι → World} {Qa : Act → Prop} {rest : List Nat}
def skipsV (ops : Array Oper) (g : Nat) (b : Bool) (l : List Nat) : Bool := l.all fun i => ((ops[i]?).map fun o => o.guard == some (g, b)).getD false && !(slotAt ops i == slotAt ops g)
theorem still_skipsV (g : Nat) (b : Bool) (d : Tmp) (v : Value) (hg : slotAt ops g = some d) (hb : boolOf v ≠ some b) : ∀ (l : List Nat) (a : Act), skipsV ops g b l = true → a.tmps[d]? = some v → wpStill P ops W Qa rest (putUndef ops l a) → wpStill P ops W Qa (l ++ rest) a
  | [], _, _, _, h => h
  | i :: l, a, hs, hv, h => by
    simp only [skipsV, List.all_cons, Bool.and_eq_true, Bool.not_eq_true'] at hs
    obtain ⟨⟨h1, h2⟩, h3⟩ := hs
    cases ho : ops[i]? with
    | none => rw [ho] at h1; cases h1
    | some o =>
      rw [ho] at h1
      have hgd : o.guard = some (g, b) := by simpa using h1
      have hsl : slotAt ops i = o.dst := by unfold slotAt; rw [ho]; rfl
      refine still_skip ho ?_ (fun K hK => hK _ ?_)
      · have hg' : (ops[g]?).bind (·.dst) = some d := hg
        unfold Region.wanted
        rw [hgd]
        simp only [yielded, hg', Option.bind_some, hv]
        cases v <;> first | rfl | (rename_i c; cases b <;> cases c <;> first | rfl | exact absurd rfl hb)
      · refine still_skipsV g b d v hg hb l _ (by unfold skipsV; exact h3) ?_ (by rw [← hsl]; exact h)
        rw [put_get, if_neg]
        · exact hv
        · rintro ⟨e, _⟩
          rw [hsl, e, hg] at h2
          simp at h2
def undefL : List Nat → Act → Act
  | [], a => a
  | d :: l, a => undefL l (a.put (some d) undef)
theorem undefL_eq : ∀ (l ds : List Nat) (a : Act), l.map (slotAt ops) = ds.map some → putUndef ops l a = undefL ds a
  | [], [], _, _ => rfl
  | [], _ :: _, _, h => by cases h
  | _ :: _, [], _, h => by cases h
  | i :: l, d :: ds, a, h => by
    simp only [List.map_cons, List.cons.injEq] at h
    show putUndef ops l (a.put (slotAt ops i) undef) = undefL ds (a.put (some d) undef)
    rw [h.1]
    exact undefL_eq l ds _ h.2
theorem still_pass {l0 : List Nat} {a : Act} (g : Nat) (b : Bool) (d : Tmp) (v : Value) (l rest ds : List Nat) (hl : l0 = l ++ rest) (hg : slotAt ops g = some d) (hb : boolOf v ≠ some b) (hs : skipsV ops g b l = true) (hd : l.map (slotAt ops) = ds.map some) (hv : a.tmps[d]? = some v) (h : wpStill P ops W Qa rest (undefL ds a)) : wpStill P ops W Qa l0 a := by
  rw [hl]
  exact still_skipsV g b d v hg hb l a hs hv (by rw [undefL_eq l ds a hd]; exact h)
theorem still_pass1 {l0 : List Nat} {a : Act} (g : Nat) (b : Bool) (d : Tmp) (v : Value) (l rest ds : List Nat) (hl : l0 = l ++ rest) (hg : slotAt ops g = some d) (hb : boolOf v ≠ some b) (hs : skipsV ops g b l = true) (hd : l.map (slotAt ops) = ds.map some) (hv : a.tmps[d]? = some v) (h : ∀ K : Act → Prop, (∀ a, wpStill P ops W Qa rest a → K a) → K (undefL ds a)) : wpStill P ops W Qa l0 a :=
  still_pass g b d v l rest ds hl hg hb hs hd hv (h _ (fun _ h => h))
/-- Three guards, one behind the other. -/
theorem still_pass3 {l0 : List Nat} {a : Act} (g1 : Nat) (b1 : Bool) (d1 : Tmp) (v1 : Value) (l1 ds1 : List Nat) (g2 : Nat) (b2 : Bool) (d2 : Tmp) (v2 : Value) (l2 ds2 : List Nat) (g3 : Nat) (b3 : Bool) (d3 : Tmp) (v3 : Value) (l3 ds3 : List Nat) (rest : List Nat) (hl : l0 = l1 ++ (l2 ++ (l3 ++ rest)))
    (hg1 : slotAt ops g1 = some d1) (hb1 : boolOf v1 ≠ some b1) (hs1 : skipsV ops g1 b1 l1 = true) (hd1 : l1.map (slotAt ops) = ds1.map some)
    (hg2 : slotAt ops g2 = some d2) (hb2 : boolOf v2 ≠ some b2) (hs2 : skipsV ops g2 b2 l2 = true) (hd2 : l2.map (slotAt ops) = ds2.map some)
    (hg3 : slotAt ops g3 = some d3) (hb3 : boolOf v3 ≠ some b3) (hs3 : skipsV ops g3 b3 l3 = true) (hd3 : l3.map (slotAt ops) = ds3.map some)
    (hv1 : a.tmps[d1]? = some v1) (hv2 : (undefL ds1 a).tmps[d2]? = some v2) (hv3 : (undefL ds2 (undefL ds1 a)).tmps[d3]? = some v3)
    (h : ∀ K : Act → Prop, (∀ a, wpStill P ops W Qa rest a → K a) → K (undefL ds3 (undefL ds2 (undefL ds1 a)))) : wpStill P ops W Qa l0 a :=
  still_pass g1 b1 d1 v1 l1 _ ds1 hl hg1 hb1 hs1 hd1 hv1 (still_pass g2 b2 d2 v2 l2 _ ds2 rfl hg2 hb2 hs2 hd2 hv2 (still_pass g3 b3 d3 v3 l3 rest ds3 rfl hg3 hb3 hs3 hd3 hv3 (h _ (fun _ h => h))))
end
end Go.Proofs.Ytmlklmhochihbaa
/- The reference's frames: Keys. -/
namespace Go.Proofs.Ytmlklmhochihbaa
open Go.RowKit

theorem ins_sorted {O : List Int} (h : O.Pairwise (· ≤ ·)) {a : Nat} {q : Int} (ha : a ≤ O.length) (h1 : ∀ j, j < a → O.getD j 0 < q) (h2 : a = O.length ∨ ¬ O.getD a 0 < q) : (O.take a ++ q :: O.drop a).Pairwise (· ≤ ·) := by
  have hs : (O.take a ++ O.drop a).Pairwise (· ≤ ·) := by rw [List.take_append_drop]; exact h
  rw [List.pairwise_append] at hs ⊢
  obtain ⟨s1, s2, s3⟩ := hs
  have hq : ∀ x ∈ O.drop a, q ≤ x := fun x hx => by
    rcases h2 with h2 | h2
    · rw [List.drop_eq_nil_of_le (by omega)] at hx; cases hx
    · by_cases hal : a < O.length
      · rw [List.drop_eq_getElem_cons hal] at hx s2
        rw [List.getD_eq_getElem?_getD, List.getElem?_eq_getElem hal] at h2
        have h2' : ¬ O[a] < q := h2
        rcases List.mem_cons.1 hx with h3 | h3
        · rw [h3]; omega
        · have := (List.pairwise_cons.1 s2).1 x h3
          omega
      · rw [List.drop_eq_nil_of_le (by omega)] at hx; cases hx
  refine ⟨s1, List.pairwise_cons.2 ⟨hq, s2⟩, fun x hx y hy => ?_⟩
  rcases List.mem_cons.1 hy with h3 | h3
  · obtain ⟨j, hj⟩ := List.getElem?_of_mem hx
    rw [List.getElem?_take] at hj
    split at hj
    · rename_i hja
      have := h1 j hja
      rw [List.getD_eq_getElem?_getD, hj] at this
      have h4 : x < q := this
      rw [h3]; omega
    · cases hj
  · exact s3 x hx y h3
section
variable {w w' w1 : World} {ro ro1 : Owner} {gx : Nat} {vl vp vs vh v' : Value} {FL FL' : List FrV} {s s' : St} {R : Nat → Prop}
set_option maxRecDepth 100000 in
set_option maxHeartbeats 4000000 in
theorem rxkeys_any (h : Rx w ro gx s) : Calls Try.prog 41 #[ptr gx] w fun e w' => ∃ v, e = .returned v ∧ Nums w' v s.rising ∧ Grow w w' := by
  obtain ⟨vl, vp, vs, vh, FL, h⟩ := h
  have HH := Hid.mk' h
  obtain ⟨n, hn⟩ : ∃ n, n = FL.length := ⟨_, rfl⟩
  obtain ⟨ao, cap, e, -⟩ := h.rl.shape
  rw [← hn] at e
  subst e
  have HBK := Hid.mk' h.ht.blk
  have HN := Hid.mk' hn
  have hnb : (n : Int) ≤ 1024 := by have := h.small.1; omega
  have HNB : Hid (n ≤ 1024) := by show _ ≤ _; omega
  have HKL : Hid (s.keys.length = n) := by show _ = _; unfold St.keys; rw [List.length_map, hn, h.lenL]
  have HKI : Hid (∀ x ∈ s.keys, i64 x) := fun x hx => by
    unfold St.keys at hx
    obtain ⟨e, he, rfl⟩ := List.mem_map.1 hx
    exact (h.ok.ik e he).1
  clear h hn
  go_enter Try.func41, Try.ntmps41
  go_wp2
  go_loopw [3, 4, 5, 6] (fun rv iv _ _ wr => ∃ (i : Nat) (r : Value) (O : List Int), i ≤ n ∧ iv = .int .i64 i ∧ r = rv ∧ wr.ownsRow 0 3 1 r O.length (numv O) ∧ (∀ k, r.ownBlock = some k → w.heap.size ≤ k) ∧ O.Perm (s.keys.take i) ∧ O.Pairwise (· ≤ ·) ∧ Grow w wr) (fun _ iv _ _ _ => n - (intOf iv).toNat)
  case atStart => exact ⟨0, _, [], Nat.zero_le _, rfl, rfl, World.ownsRow_nil _ _ _ _, (fun k hk => by cases hk), List.Perm.refl _, .nil, But.refl _ _⟩
  case round =>
    rename_i rv u5 u6
    obtain ⟨i, r, O, hin, rfl, rfl, hT, hV, hP, hS, hG⟩ := hrel
    have hbk := HBK.out.but hG (fun h => h)
    have HT := Hid.mk' hT
    have HV := Hid.mk' hV
    have HG := Hid.mk' hG
    have HP := Hid.mk' hP
    have HS := Hid.mk' hS
    have HBW := Hid.mk' hbk
    have c1 : wr.cell? ⟨gx, 1, none⟩ = some (.slice ao n cap) := hbk.cell 1
    obtain ⟨ra, rc, hr⟩ := own_sl hT
    obtain ⟨m, hm⟩ : ∃ m, m = O.length := ⟨_, rfl⟩
    have HM := Hid.mk' hm
    have HMB : Hid (m ≤ 1024) := by
      show _ ≤ _
      have := hP.length_eq
      rw [List.length_take] at this
      have := HNB.out
      omega
    rw [← hm] at hr
    subst hr
    have HOI : Hid (∀ x ∈ O, i64 x) := fun x hx => HKI.out x (List.mem_of_mem_take (hP.mem_iff.1 hx))
    by_cases hlt : i < n
    · have hlti : (i : Int) < (n : Int) := by omega
      obtain ⟨⟨⟨q, qb, qw⟩, qv⟩, hq⟩ : ∃ e, FL[i]? = some e := ⟨_, List.getElem?_eq_getElem (by have := HN.out; omega)⟩
      have hki : s.keys[i]? = some q := by
        unfold St.keys
        rw [← HH.out.fl, List.getElem?_map, List.getElem?_map, hq]
        rfl
      obtain ⟨g, cp, e1, -, hcell⟩ := (HH.out.grow hG).rl.cellAt (fun e _ => fxc_len e) hq
      simp only [Value.slice.injEq] at e1
      obtain ⟨rfl, -, rfl⟩ := e1
      have HC3 : Hid (wr.cell? ⟨g, i * 3, none⟩ = some (.int .i64 q)) := hcell 0 _ rfl
      have HKX : Hid (s.keys.take (i + 1) = s.keys.take i ++ [q]) := by
        show _ = _
        have h3 := List.getElem?_eq_some_iff.1 hki
        rw [List.take_succ_eq_append_getElem h3.1, h3.2]
      have hmb : (m : Int) ≤ 1024 := by have := HMB.out; omega
      have HF : Hid (∀ wz, Grow wr wz → Blk wz gx 72 [.int .i64 (s.most : Int), .slice (some ⟨g, 0, none⟩) n cap, vp, vs, .int .i64 ((16 : Nat) : Int), .int .i64 (s.now : Int), vh] ∧ wz.cell? ⟨g, i * 3, none⟩ = some (.int .i64 q) ∧ wz.ownsRow 0 3 1 (.slice ra m rc) O.length (numv O) ∧ Grow w wz ∧ wr.heap.size ≤ wz.heap.size) := fun wz k => ⟨HBW.out.but k (fun h => h), grow_cell k HC3.out, ownsRow_grow HT.out k, HG.out.trans k, k.size⟩
      clear hT hV hG hP hS hcell hq hki hm hbk HC3 HBW HBK
      go_wp2
      clear c1
      go_loopw [5] (fun av wq => ∃ a : Nat, a ≤ m ∧ av = .int .i64 a ∧ (∀ j, j < a → O.getD j 0 < q) ∧ Grow wr wq) (fun av _ => m - (intOf av).toNat)
      case atStart => exact ⟨0, Nat.zero_le _, rfl, fun j hj => absurd hj (by omega), But.refl _ _⟩
      case round =>
        obtain ⟨a, ham, rfl, hlo, hgw⟩ := hrel
        have HLO := Hid.mk' hlo
        have HGW := Hid.mk' hgw
        clear hlo
        by_cases hal : a < m
        · have hali : (a : Int) < (m : Int) := by omega
          obtain ⟨oa, hoa⟩ : ∃ oa, oa = O.getD a 0 := ⟨_, rfl⟩
          have HOA := Hid.mk' hoa
          obtain ⟨go, rfl, hco⟩ : ∃ go, ra = some ⟨go, 0, none⟩ ∧ ∀ wz, Grow wr wz → wz.cell? ⟨go, a, none⟩ = some (.int .i64 oa) := by
            have fr := (HF.out wr hgw).2.2.1
            have hsh : RowOf wr (fun _ => True) 3 1 (.slice ra m rc) O.length (numv O) := ⟨fr, fun _ _ => trivial⟩
            obtain ⟨ao', c', e', h2⟩ := hsh.shape
            obtain ⟨go, e2, -, -, hc⟩ := h2 (by have := HM.out; omega)
            simp only [Value.slice.injEq] at e'
            refine ⟨go, e'.1.trans e2, fun wz k => grow_cell k (hc a _ ?_)⟩
            have hal' : a < O.length := by have := HM.out; omega
            rw [hoa, List.getD_eq_getElem?_getD, List.getElem?_eq_getElem hal']
            simp [numv, hal']
          have HCO := Hid.mk' hco
          clear hoa hco
          go_upto_region 6 with fail
          refine region_chain [] [0, 1, 2, 3, 4, 5, 6, 7, 8, 9, 10, 11, 12, 13, 14, 15, 16, 17, 18] (Grow wr) (Grow wr) (by kernel_rfl) (by kernel_rfl) (fun _ _ h k => h.trans k) (fun _ h => h) ((But.refl _ wr).drew) ?_
          intro ι hne X hX
          have d0 : ∀ x, (X x).cell? ⟨gx, 1, none⟩ = some (.slice (some ⟨g, 0, none⟩) n cap) := fun x => (HF.out _ (HGW.out.trans (hX x))).1.cell 1
          have d1 : ∀ x, (X x).cell? ⟨g, i * 3, none⟩ = some (.int .i64 q) := fun x => (HF.out _ (HGW.out.trans (hX x))).2.1
          have d2 : ∀ x, (X x).cell? ⟨go, a, none⟩ = some (.int .i64 oa) := fun x => HCO.out _ (hX x)
          iterate 19 (refine still_step rfl (fun K hK => ?_); go_simp; refine hK _ ?_; clear hK K)
          refine still_nil ?_
          clear hX hne d0 d1 d2
          intro w4 hw4
          have HG4 := Hid.mk' (HGW.out.trans hw4)
          clear hw4 hgw HGW HCO
          by_cases hoq : oa < q
          · have HST2 : Hid (∀ j, j < a + 1 → O.getD j 0 < q) := fun j hj => by
              by_cases e : j = a
              · rw [e, ← HOA.out]; exact hoq
              · exact HLO.out j (by omega)
            go_wp2
            exact ⟨⟨a + 1, by omega, by go_num, HST2.out, HG4.out⟩, by simp [intOf]; omega⟩
          · have HST : Hid (a = O.length ∨ ¬ O.getD a 0 < q) := .inr (by rw [← HOA.out]; exact hoq)
            obtain ⟨fb4, fc4, fr4, fg4, fs4⟩ := HF.out w4 HG4.out
            have hml : O.length = m := HM.out.symm
            obtain ⟨lo, hi', hlo1, hhi1, hnl, hnh⟩ := nums_cut fr4 HOI.out (by have := HMB.out; omega) (a := a) (by omega)
            have HL1 := Hid.mk' hlo1
            have HH1 := Hid.mk' hhi1
            have HNL := Hid.mk' hnl
            have HNH := Hid.mk' hnh
            have HB4 := Hid.mk' fb4
            have HC4 := Hid.mk' fc4
            have HG0 := Hid.mk' fg4
            clear fb4 fc4 fr4 fg4 fs4 hlo1 hhi1 hnl hnh
            go_upto_region 10 with (first
              | (refine wpList_runH rfl (exec_slc rfl rfl rfl rfl (HL1.out _)) ?_)
              | (refine wpList_someH rfl (exec_appendN (v := .slice none 0 0) (n := 0) (xs := []) (ks := O.take a) rfl rfl (World.ownsRow_nil _ _ _ _) rfl HNL.out (by have := HMB.out; rw [List.length_take]; omega)) ?_; intro v6 w6 hap)
              | fail)
            have hap' : Appd w4 w6 3 1 (.slice none 0 0) v6 (0 + (O.take a).length) ([] ++ numv (O.take a)) := hap
            have hg6 : Grow w4 w6 := hap'.but.mono (fun b _ e => by cases e)
            have HG6 := Hid.mk' hg6
            rw [Nat.zero_add, List.nil_append] at hap'
            have HR6 := Hid.mk' hap'.own
            have HV6 : Hid (∀ k, v6.ownBlock = some k → w4.heap.size ≤ k) := fun k hk => by
              rcases hap'.at' with e | e
              · rw [e] at hk; cases hk
              · rw [e] at hk; have := Option.some.inj hk; omega
            have b1 : w6.cell? ⟨gx, 1, none⟩ = some (.slice (some ⟨g, 0, none⟩) n cap) := (HB4.out.but hg6 (fun h => h)).cell 1
            have b3 : w6.cell? ⟨g, i * 3, none⟩ = some (.int .i64 q) := grow_cell hg6 HC4.out
            have HAL : Hid (Grow w6 (w6.alloc (.cells #[.int .i64 q] 3))) := (But.refl _ w6).alloc _
            have HBL : Hid (Blk (w6.alloc (.cells #[.int .i64 q] 3)) w6.heap.size 3 (numv [q])) := Blk.new (L := numv [q]) rfl
            have HTL : Hid ((O.take a).length ≤ 1024) := by show _ ≤ _; rw [List.length_take]; have := HMB.out; omega
            clear hap hap' hg6 HL1 HNL
            go_upto_region 11 with (first
              | (refine wpList_runH rfl (exec_row1 Try.underlying40 infNum (by decide) (by decide) rfl rfl rfl) ?_)
              | (refine wpList_someH rfl (exec_append (v := v6) (n := (O.take a).length) (xs := numv (O.take a)) (news := numv [q]) Try.underlying40 infNum rfl (by decide) rfl rfl (ownsRow_grow HR6.out HAL.out) rfl rfl (fun j u hj => HBL.out.cells0 j u hj) (fun u hu => by rw [show u = .int .i64 q by simpa [numv] using hu]; rfl) (by have := HTL.out; omega) (by decide)) ?_; intro v7 w7 hap)
              | fail)
            have hap' : Appd (w6.alloc (.cells #[.int .i64 q] 3)) w7 3 1 v6 v7 ((O.take a).length + 1) (numv (O.take a) ++ numv [q]) := hap
            have hg7 : Grow w4 w7 := (HG6.out.trans HAL.out).then hap'.but (fun b hb e => by have := HV6.out b e; omega)
            have HG7 := Hid.mk' hg7
            have HR7 := Hid.mk' hap'.own
            have HV7 : Hid (∀ k, v7.ownBlock = some k → w4.heap.size ≤ k) := fun k hk => by
              rcases hap'.at' with e | e
              · exact HV6.out k (by rw [← e]; exact hk)
              · rw [e] at hk
                have := Option.some.inj hk
                have := HG6.out.size
                have := HAL.out.size
                omega
            have HNH7 := Hid.mk' (HNH.out.grow hg7)
            clear hap hap' hg7 b1 b3 HR6 HAL HBL
            go_wp2_with (first
              | (refine wpList_runH rfl (exec_slc rfl rfl rfl rfl (HH1.out _)) ?_)
              | (refine wpList_someH rfl (exec_appendN (v := v7) (n := (O.take a).length + 1) (xs := numv (O.take a) ++ numv [q]) (ks := O.drop a) rfl rfl HR7.out rfl HNH7.out (by have := HTL.out; have := HMB.out; rw [List.length_drop]; omega)) ?_; intro v8 w8 hap)
              | fail)
            have hap' : Appd w7 w8 3 1 v7 v8 ((O.take a).length + 1 + (O.drop a).length) (numv (O.take a) ++ numv [q] ++ numv (O.drop a)) := hap
            refine ⟨⟨i + 1, v8, O.take a ++ q :: O.drop a, by omega, by go_num, rfl, ?_, fun k hk => ?_, ?_, ins_sorted HS.out (by omega) HLO.out HST.out, ?_⟩, by simp [intOf]; omega⟩
            · rw [show (O.take a ++ q :: O.drop a).length = (O.take a).length + 1 + (O.drop a).length by simp; omega, show numv (O.take a ++ q :: O.drop a) = numv (O.take a) ++ numv [q] ++ numv (O.drop a) by simp [numv]]
              exact hap'.own
            · have h9 := HG0.out.size
              rcases hap'.at' with e | e
              · have := HV7.out k (by rw [← e]; exact hk); omega
              · rw [e] at hk
                have := Option.some.inj hk
                have := HG7.out.size
                omega
            · rw [HKX.out]
              refine List.perm_middle.trans ?_
              rw [List.take_append_drop]
              exact (List.Perm.cons q HP.out).trans (List.perm_append_comm (l₁ := [q]))
            · exact HG0.out.trans (HG7.out.then hap'.but (fun b hb e => by have := HV7.out b e; omega))
        · have hali : ¬ ((a : Int) < (m : Int)) := by omega
          have HST : Hid (a = O.length ∨ ¬ O.getD a 0 < q) := .inl (by have := HM.out; omega)
          go_upto_region 6 with fail
          refine region_chain [] [0, 1, 2, 3, 4, 5, 6, 7, 8, 9, 10, 11, 12, 13, 14, 15, 16, 17, 18] (Grow wr) (Grow wr) (by kernel_rfl) (by kernel_rfl) (fun _ _ h k => h.trans k) (fun _ h => h) ((But.refl _ wr).drew) ?_
          intro ι hne X hX
          iterate 4 (refine still_step rfl (fun K hK => ?_); go_simp; refine hK _ ?_; clear hK K)
          refine still_step rfl (fun K hK => ?_)
          have hK' := fun (a : Act) h1 h4 => hK a (still_pass1 (a := a) 4 true 20 (.bool false) [5, 6, 7, 8, 9, 10, 11, 12, 13, 14, 15, 16, 17] [18] [21, 22, 23, 24, 25, 26, 27, 28, 29, 30, 31, 32, 33] rfl rfl (fun h => by cases h) (by kernel_rfl) (by kernel_rfl) h1 h4)
          clear hK
          go_simp
          refine hK' _ (by kernel_rfl) ?_
          clear hK' K
          intro K hK
          simp only [undefL]
          go_simp
          refine hK _ ?_
          clear hK K
          iterate 1 (refine still_step rfl (fun K hK => ?_); go_simp; refine hK _ ?_; clear hK K)
          refine still_nil ?_
          clear hX hne
          intro w4 hw4
          have HG4 := Hid.mk' (HGW.out.trans hw4)
          clear hw4 hgw HGW
          obtain ⟨fb4, fc4, fr4, fg4, fs4⟩ := HF.out w4 HG4.out
          have hml : O.length = m := HM.out.symm
          obtain ⟨lo, hi', hlo1, hhi1, hnl, hnh⟩ := nums_cut fr4 HOI.out (by have := HMB.out; omega) (a := a) (by omega)
          have HL1 := Hid.mk' hlo1
          have HH1 := Hid.mk' hhi1
          have HNL := Hid.mk' hnl
          have HNH := Hid.mk' hnh
          have HB4 := Hid.mk' fb4
          have HC4 := Hid.mk' fc4
          have HG0 := Hid.mk' fg4
          clear fb4 fc4 fr4 fg4 fs4 hlo1 hhi1 hnl hnh
          go_upto_region 10 with (first
            | (refine wpList_runH rfl (exec_slc rfl rfl rfl rfl (HL1.out _)) ?_)
            | (refine wpList_someH rfl (exec_appendN (v := .slice none 0 0) (n := 0) (xs := []) (ks := O.take a) rfl rfl (World.ownsRow_nil _ _ _ _) rfl HNL.out (by have := HMB.out; rw [List.length_take]; omega)) ?_; intro v6 w6 hap)
            | fail)
          have hap' : Appd w4 w6 3 1 (.slice none 0 0) v6 (0 + (O.take a).length) ([] ++ numv (O.take a)) := hap
          have hg6 : Grow w4 w6 := hap'.but.mono (fun b _ e => by cases e)
          have HG6 := Hid.mk' hg6
          rw [Nat.zero_add, List.nil_append] at hap'
          have HR6 := Hid.mk' hap'.own
          have HV6 : Hid (∀ k, v6.ownBlock = some k → w4.heap.size ≤ k) := fun k hk => by
            rcases hap'.at' with e | e
            · rw [e] at hk; cases hk
            · rw [e] at hk; have := Option.some.inj hk; omega
          have b1 : w6.cell? ⟨gx, 1, none⟩ = some (.slice (some ⟨g, 0, none⟩) n cap) := (HB4.out.but hg6 (fun h => h)).cell 1
          have b3 : w6.cell? ⟨g, i * 3, none⟩ = some (.int .i64 q) := grow_cell hg6 HC4.out
          have HAL : Hid (Grow w6 (w6.alloc (.cells #[.int .i64 q] 3))) := (But.refl _ w6).alloc _
          have HBL : Hid (Blk (w6.alloc (.cells #[.int .i64 q] 3)) w6.heap.size 3 (numv [q])) := Blk.new (L := numv [q]) rfl
          have HTL : Hid ((O.take a).length ≤ 1024) := by show _ ≤ _; rw [List.length_take]; have := HMB.out; omega
          clear hap hap' hg6 HL1 HNL
          go_upto_region 11 with (first
            | (refine wpList_runH rfl (exec_row1 Try.underlying40 infNum (by decide) (by decide) rfl rfl rfl) ?_)
            | (refine wpList_someH rfl (exec_append (v := v6) (n := (O.take a).length) (xs := numv (O.take a)) (news := numv [q]) Try.underlying40 infNum rfl (by decide) rfl rfl (ownsRow_grow HR6.out HAL.out) rfl rfl (fun j u hj => HBL.out.cells0 j u hj) (fun u hu => by rw [show u = .int .i64 q by simpa [numv] using hu]; rfl) (by have := HTL.out; omega) (by decide)) ?_; intro v7 w7 hap)
            | fail)
          have hap' : Appd (w6.alloc (.cells #[.int .i64 q] 3)) w7 3 1 v6 v7 ((O.take a).length + 1) (numv (O.take a) ++ numv [q]) := hap
          have hg7 : Grow w4 w7 := (HG6.out.trans HAL.out).then hap'.but (fun b hb e => by have := HV6.out b e; omega)
          have HG7 := Hid.mk' hg7
          have HR7 := Hid.mk' hap'.own
          have HV7 : Hid (∀ k, v7.ownBlock = some k → w4.heap.size ≤ k) := fun k hk => by
            rcases hap'.at' with e | e
            · exact HV6.out k (by rw [← e]; exact hk)
            · rw [e] at hk
              have := Option.some.inj hk
              have := HG6.out.size
              have := HAL.out.size
              omega
          have HNH7 := Hid.mk' (HNH.out.grow hg7)
          clear hap hap' hg7 b1 b3 HR6 HAL HBL
          go_wp2_with (first
            | (refine wpList_runH rfl (exec_slc rfl rfl rfl rfl (HH1.out _)) ?_)
            | (refine wpList_someH rfl (exec_appendN (v := v7) (n := (O.take a).length + 1) (xs := numv (O.take a) ++ numv [q]) (ks := O.drop a) rfl rfl HR7.out rfl HNH7.out (by have := HTL.out; have := HMB.out; rw [List.length_drop]; omega)) ?_; intro v8 w8 hap)
            | fail)
          have hap' : Appd w7 w8 3 1 v7 v8 ((O.take a).length + 1 + (O.drop a).length) (numv (O.take a) ++ numv [q] ++ numv (O.drop a)) := hap
          refine ⟨⟨i + 1, v8, O.take a ++ q :: O.drop a, by omega, by go_num, rfl, ?_, fun k hk => ?_, ?_, ins_sorted HS.out (by omega) HLO.out HST.out, ?_⟩, by simp [intOf]; omega⟩
          · rw [show (O.take a ++ q :: O.drop a).length = (O.take a).length + 1 + (O.drop a).length by simp; omega, show numv (O.take a ++ q :: O.drop a) = numv (O.take a) ++ numv [q] ++ numv (O.drop a) by simp [numv]]
            exact hap'.own
          · have h9 := HG0.out.size
            rcases hap'.at' with e | e
            · have := HV7.out k (by rw [← e]; exact hk); omega
            · rw [e] at hk
              have := Option.some.inj hk
              have := HG7.out.size
              omega
          · rw [HKX.out]
            refine List.perm_middle.trans ?_
            rw [List.take_append_drop]
            exact (List.Perm.cons q HP.out).trans (List.perm_append_comm (l₁ := [q]))
          · exact HG0.out.trans (HG7.out.then hap'.but (fun b hb e => by have := HV7.out b e; omega))
    · have hlti : ¬ ((i : Int) < (n : Int)) := by omega
      have hE : s.keys.take i = s.keys := List.take_of_length_le (by have := HKL.out; omega)
      rw [hE] at hP
      have hris : O = s.rising := perm_le_eq (hP.trans (List.mergeSort_perm s.keys (fun x y => decide (x ≤ y))).symm) hS ((List.pairwise_mergeSort (le := fun x y : Int => decide (x ≤ y)) (fun a b c h1 h2 => by simp only [decide_eq_true_eq] at *; omega) (fun a b => by simp only [Bool.or_eq_true, decide_eq_true_eq]; omega) s.keys).imp (fun h => by simpa using h))
      have HNU : Hid (Nums wr (.slice ra m rc) s.rising) := by rw [← hris]; exact Nums.ofRow hT HOI.out (by have := HMB.out; omega)
      clear hT hV hG hP hS hE hris hm hbk
      go_wp2
      go_ret
      exact ⟨_, rfl, HNU.out, HG.out⟩
end
end Go.Proofs.Ytmlklmhochihbaa
/- A table of a law's own: what its calls leave of all that isn't the table's. -/
namespace Go.Proofs.Ytmlklmhochihbaa
open Go.RowKit Go.Maps

/-- The table at gt is new since w0, and no block of F is its. -/
structure Fl (F : Nat → Prop) (w0 w : World) (gt : Nat) (s : St) : Prop where
  ex : ∃ own, Ft w own gt s ∧ ∀ b, own b ≠ .none → w0.heap.size ≤ b ∧ ¬ F b
  grow : Grow w0 w
  lt : ∀ b, F b → b < w.heap.size
/-- What a call turns. -/
abbrev Fo (F : Nat → Prop) (w0 : World) : Nat → Prop := fun b => w0.heap.size ≤ b ∧ ¬ F b
section
variable {F G : Nat → Prop} {w0 w w' : World} {own : Owner} {gt : Nat} {s s' : St} {R : Nat → Prop} {f : FuncId} {args : Array Value} {r : Value}
theorem Fl.then (h : Fl F w0 w gt s) (k : Grow w w') : Fl F w0 w' gt s := by
  obtain ⟨o, h1, h2⟩ := h.ex
  exact ⟨⟨o, h1.grow k, h2⟩, h.grow.trans k, fun b hb => Nat.lt_of_lt_of_le (h.lt b hb) k.size⟩
/-- Blocks of the law are written. -/
theorem Fl.turn (h : Fl F w0 w gt s) (k : But R w w') (hr : ∀ b, R b → F b ∧ w0.heap.size ≤ b) : Fl F w0 w' gt s := by
  obtain ⟨o, h1, h2⟩ := h.ex
  refine ⟨⟨o, h1.but k (fun b hb e => (h2 b hb).2 (hr b e).1), h2⟩, h.grow.then k (fun i hi e => by have := (hr i e).2; omega), fun b hb => Nat.lt_of_lt_of_le (h.lt b hb) k.size⟩
/-- New memory is the law's. -/
theorem Fl.add (h : Fl F w0 w gt s) (k : Grow w w') (hG : ∀ b, G b → F b ∨ (w.heap.size ≤ b ∧ b < w'.heap.size)) : Fl G w0 w' gt s := by
  obtain ⟨o, h1, h2⟩ := h.ex
  refine ⟨⟨o, h1.grow k, fun b hb => ⟨(h2 b hb).1, fun e => ?_⟩⟩, h.grow.trans k, fun b hb => ?_⟩
  · rcases hG b e with e | e
    · exact (h2 b hb).2 e
    · exact hb (h1.top b e.1)
  · rcases hG b hb with e | e
    · exact Nat.lt_of_lt_of_le (h.lt b e) k.size
    · exact e.2
theorem Fl.less (h : Fl F w0 w gt s) (hG : ∀ b, G b → F b) : Fl G w0 w gt s := h.add (But.refl _ _) (fun b hb => .inl (hG b hb))
theorem Fl.to (h : ∀ b, own b ≠ .none → w0.heap.size ≤ b ∧ ¬ F b) (hg : Grow w0 w) (hl : ∀ b, F b → b < w.heap.size) (k : FtTo w own gt s w') : Fl F w0 w' gt s ∧ But (Fo F w0) w w' := by
  obtain ⟨o, h1, h2, h3⟩ := k.ex
  have hb : But (Fo F w0) w w' := k.but.mono (fun b _ e => h b e.1)
  refine ⟨⟨⟨o, h1, fun b hb => ?_⟩, hg.then hb (fun i hi e => by have := e.1; omega), fun b hb2 => Nat.lt_of_lt_of_le (hl b hb2) hb.size⟩, hb⟩
  by_cases e : o b = own b
  · exact h b (by rw [← e]; exact hb)
  · have h4 := h3 b e
    exact ⟨Nat.le_trans hg.size h4, fun e2 => by have := hl b e2; omega⟩
/-- A call on the table. -/
theorem Fl.call (h : Fl F w0 w gt s) (c : ∀ own, Ft w own gt s → (∀ b, own b ≠ .none → w0.heap.size ≤ b ∧ ¬ F b) → Calls Try.prog f args w fun e w' => e = .returned r ∧ FtTo w own gt s' w') :
    Calls Try.prog f args w fun e w' => e = .returned r ∧ Fl F w0 w' gt s' ∧ But (Fo F w0) w w' := by
  obtain ⟨o, h1, h2⟩ := h.ex
  exact (c o h1 h2).mono (fun e w' k => ⟨k.1, Fl.to h2 h.grow h.lt k.2⟩)
/-- A call that only reads. -/
theorem Fl.ask (h : Fl F w0 w gt s) (c : ∀ own, Ft w own gt s → Calls Try.prog f args w fun e w' => e = .returned r ∧ Grow w w') :
    Calls Try.prog f args w fun e w' => e = .returned r ∧ Fl F w0 w' gt s ∧ Grow w w' := by
  obtain ⟨o, h1, h2⟩ := h.ex
  exact (c o h1).mono (fun e w' k => ⟨k.1, h.then k.2, k.2⟩)
theorem Fl.same (h : Fl F w0 w gt s) (c : ∀ own, Ft w own gt s → Calls Try.prog f args w fun e w' => e = .returned r ∧ w' = w) :
    Calls Try.prog f args w fun e w' => e = .returned r ∧ w' = w := by
  obtain ⟨o, h1, h2⟩ := h.ex
  exact c o h1
theorem Fl.ok (h : Fl F w0 w gt s) : Sok s := by
  obtain ⟨o, h1, h2⟩ := h.ex
  exact h1.ok
variable {K t n : Int} {y : Nat}
theorem fl_reserve (h : Fl F w0 w gt s) (ht : i64 t) : Calls Try.prog 20 #[ptr gt, .int .i64 t, .int .i64 n] w fun e w' => e = .returned (.int .i64 (s.resc t n)) ∧ Fl F w0 w' gt (s.res t n) ∧ But (Fo F w0) w w' := h.call (fun _ k _ => reserve_any k ht)
theorem fl_free (h : Fl F w0 w gt s) (ht : i64 t) : Calls Try.prog 21 #[ptr gt, .int .i64 t] w fun e w' => e = .returned (.tuple #[]) ∧ Fl F w0 w' gt (s.free t) ∧ But (Fo F w0) w w' := h.call (fun _ k _ => free_any k ht)
theorem fl_left (h : Fl F w0 w gt s) : Calls Try.prog 24 #[ptr gt] w fun e w' => e = .returned (.int .i64 s.left) ∧ w' = w := h.same (fun _ k => left_any k)
theorem fl_put (h : Fl F w0 w gt s) (hK : i64 K) {v : Value} {xs : List Nat} {q : Bool} (hv : Bf w (fun j => j < w0.heap.size ∨ F j) v xs) (hl : xs.length ≤ 1000000) :
    Calls Try.prog 16 #[ptr gt, .int .i64 K, v, .bool q] w fun e w' => e = .returned (.int .i64 (s.putc K)) ∧ Fl F w0 w' gt (s.put K xs q) ∧ But (Fo F w0) w w' :=
  h.call (fun o k ho => by
    cases hh : s.has K with
    | true => exact put_has k hK hh hv.1 hl
    | false =>
      by_cases hf : s.most ≤ s.fr.length
      · exact put_full k hK hh hf
      · refine put_new k hK hh (by omega) ⟨hv.1, fun h0 j hj => ?_⟩ hl
        cases he : o j with
        | none => exact he
        | _ =>
          have h1 := ho j (by rw [he]; exact fun e => nomatch e)
          rcases hv.2 h0 j hj with h2 | h2
          · omega
          · exact absurd h2 h1.2)
theorem fl_get (h : Fl F w0 w gt s) (hK : i64 K) (hh : s.has K = true) (hn : s.now < 1000000) : Calls Try.prog 18 #[ptr gt, .int .i64 K] w fun e w' => ∃ v, e = .returned (.tuple #[v, .int .i64 0]) ∧ Ow w' w.heap.size v (s.bytes K) ∧ (∀ k, v.ownBlock = some k → Fl (fun b => F b ∨ b = k) w0 w' gt (s.touch K oneF)) ∧ Fl F w0 w' gt (s.touch K oneF) ∧ But (Fo F w0) w w' := by
  obtain ⟨o, h1, h2⟩ := h.ex
  refine (get_has h1 hK hh hn).mono ?_
  rintro e w' ⟨v, w1, rfl, hto, how, hbe⟩
  obtain ⟨hf, hb⟩ := Fl.to h2 h.grow h.lt hto
  have hg : Grow w1 w' := But.of hbe
  refine ⟨v, rfl, how.mono hb.size, fun k hk => ?_, hf.then hg, hb.trans (hg.mono (fun _ _ h => h.elim))⟩
  have := how.ge k hk
  exact hf.add hg (fun b e => e.elim .inl (fun e => .inr ⟨by omega, by omega⟩))
theorem fl_getNot (h : Fl F w0 w gt s) (hK : i64 K) (hh : s.has K = false) : Calls Try.prog 18 #[ptr gt, .int .i64 K] w fun e w' => e = .returned (.tuple #[.slice none 0 0, .int .i64 5]) ∧ w' = w := h.same (fun _ k => get_not k hK hh)
theorem fl_clean (h : Fl F w0 w gt s) (hK : i64 K) : Calls Try.prog 27 #[ptr gt, .int .i64 K] w fun e w' => e = .returned (.int .i64 (if s.has K then 0 else 5)) ∧ Fl F w0 w' gt (s.clean K) ∧ But (Fo F w0) w w' := h.call (fun _ k _ => clean_any k hK)
theorem fl_written (h : Fl F w0 w gt s) (hK : i64 K) : Calls Try.prog 28 #[ptr gt, .int .i64 K] w fun e w' => e = .returned (.bool (s.mark K)) ∧ w' = w := h.same (fun _ k => written_any k hK)
theorem fl_pinned (h : Fl F w0 w gt s) (hK : i64 K) : Calls Try.prog 26 #[ptr gt, .int .i64 K] w fun e w' => e = .returned (.bool (s.pinned K)) ∧ w' = w := h.same (fun _ k => pinned_any k hK)
theorem fl_drop (h : Fl F w0 w gt s) (hK : i64 K) : Calls Try.prog 15 #[ptr gt, .int .i64 K] w fun e w' => e = .returned (.int .i64 (s.dropc K)) ∧ Fl F w0 w' gt (s.drop K) ∧ But (Fo F w0) w w' := h.call (fun _ k _ => fdrop_any k hK)
theorem fl_pin (h : Fl F w0 w gt s) (ht : i64 t) (hK : i64 K) (hp : s.pins.length < 100000) : Calls Try.prog 23 #[ptr gt, .int .i64 t, .int .i64 K] w fun e w' => e = .returned (.int .i64 (if s.has K then 0 else 5)) ∧ Fl F w0 w' gt (s.pin t K) ∧ But (Fo F w0) w w' :=
  h.call (fun o k _ => by
    cases hh : s.has K with
    | true => exact fpin_has k ht hK hh hp
    | false =>
      refine (fpin_not k hK hh).mono ?_
      rintro e w' ⟨rfl, rfl⟩
      refine ⟨rfl, ?_⟩
      unfold St.pin
      rw [hh]
      exact k.same (But.refl _ _))
theorem fl_warm (h : Fl F w0 w gt s) (hK : i64 K) (hn : s.now < 1000000) : Calls Try.prog 25 #[ptr gt, .int .i64 K, .float .f64 y] w fun e w' => e = .returned (.tuple #[]) ∧ Fl F w0 w' gt (s.warm K y) ∧ But (Fo F w0) w w' := h.call (fun _ k _ => warm_any k hK hn)
theorem fl_victim (h : Fl F w0 w gt s) : Calls Try.prog 22 #[ptr gt] w fun e w' => e = .returned (.tuple #[.int .i64 s.vic, .int .i64 s.vicc]) ∧ Fl F w0 w' gt s ∧ Grow w w' := h.ask (fun _ k => victim_any k)
theorem fl_keys (h : Fl F w0 w gt s) : Calls Try.prog 17 #[ptr gt] w fun e w' => ∃ v, e = .returned v ∧ KeysF w s v w' ∧ Fl F w0 w' gt s := by
  obtain ⟨o, h1, h2⟩ := h.ex
  refine (keys_any h1).mono ?_
  rintro e w' ⟨v, rfl, hk⟩
  exact ⟨v, rfl, hk, h.then hk.grow⟩
theorem fl_new (w : World) (n : Nat) (h1 : 1 ≤ n) (h2 : n ≤ 1024) : Calls Try.prog 14 #[.int .i64 (n : Int)] w fun e w' => ∃ gt, e = .returned (.tuple #[ptr gt, .int .i64 0]) ∧ Fl (fun _ => False) w w' gt (St.new n) := by
  refine (newf_any w n h1 h2).mono ?_
  rintro e w' ⟨rfl, hn⟩
  exact ⟨_, rfl, ⟨_, hn.ft, fun b hb => ⟨hn.new b hb, fun h => h⟩⟩, hn.grow, fun b hb => hb.elim⟩
end
theorem lit1F (w : World) (x : Nat) (hx : x < 256) : Bs (w.alloc (.cells #[.int .u8 (x : Int)] 5)) (.slice (some ⟨w.heap.size, 0, none⟩) 1 1) [x] := by
  refine ⟨by simpa using hx, by simp, .inr ⟨by simp, w.heap.size, 0, 1, rfl, by simp, by simp, fun i hi => ?_⟩⟩
  obtain rfl : i = 0 := by simpa using hi
  have hb : Blk (w.alloc (.cells #[.int .u8 (x : Int)] 5)) w.heap.size 5 [.int .u8 (x : Int)] := Blk.new (L := [.int .u8 (x : Int)]) rfl
  rw [Nat.add_zero, hb.cell]; rfl
def aw : St := (((St.new 2).put 5 [1] false).put 6 [2] true).touch 5 oneF
theorem aw_vic : aw.vic = 6 ∧ aw.vicc = 0 := by decide +kernel
theorem aw_put : (St.new 2).putc 5 = 0 ∧ ((St.new 2).put 5 [1] false).putc 6 = 0 ∧ (((St.new 2).put 5 [1] false).put 6 [2] true).has 5 = true ∧ (((St.new 2).put 5 [1] false).put 6 [2] true).bytes 5 = [1] := by decide +kernel
set_option maxRecDepth 100000 in
set_option maxHeartbeats 1000000 in
theorem awake_any (w : World) : Calls Try.prog 9 #[] w fun e w' => e = .returned (.bool true) ∧ Grow w w' := by
  have HN := Hid.mk' (fl_new w 2 (by decide) (by decide))
  go_enter Try.func9, Try.ntmps9
  go_wp2_with fail
  refine Calls.mono HN.out ?_
  rintro e w1 ⟨gt, rfl, h1⟩
  have HA1 : Hid (Grow w1 (w1.alloc (.cells #[.int .u8 1] 5))) := (But.refl _ w1).alloc _
  have hp1 := fl_put (K := 5) (q := false) (h1.add (G := fun b => b = w1.heap.size) HA1.out (fun b e => .inr ⟨by omega, by simp; omega⟩)) (by unfold i64; omega) (v := .slice (some ⟨w1.heap.size, 0, none⟩) 1 1) (xs := [1]) ⟨lit1F w1 1 (by decide), fun _ j hj => .inr (by cases hj; rfl)⟩ (by decide)
  rw [aw_put.1] at hp1
  have HP1 := Hid.mk' hp1
  clear hp1 h1
  go_wp2_with fail
  refine Calls.mono HP1.out ?_
  rintro e w2 ⟨rfl, h2, -⟩
  have HA2 : Hid (Grow w2 (w2.alloc (.cells #[.int .u8 2] 5))) := (But.refl _ w2).alloc _
  have hp2 := fl_put (K := 6) (q := true) (h2.add (G := fun b => b = w2.heap.size) HA2.out (fun b e => .inr ⟨by omega, by simp; omega⟩)) (by unfold i64; omega) (v := .slice (some ⟨w2.heap.size, 0, none⟩) 1 1) (xs := [2]) ⟨lit1F w2 2 (by decide), fun _ j hj => .inr (by cases hj; rfl)⟩ (by decide)
  rw [aw_put.2.1] at hp2
  have HP2 := Hid.mk' hp2
  clear hp2 h2
  go_wp2_with fail
  refine Calls.mono HP2.out ?_
  rintro e w3 ⟨rfl, h3, -⟩
  have hg := fl_get (h3.less (G := fun _ => False) (fun _ h => h.elim)) (K := 5) (by unfold i64; omega) aw_put.2.2.1 (by decide)
  rw [aw_put.2.2.2] at hg
  have HG := Hid.mk' hg
  clear hg h3
  go_wp2_with fail
  refine Calls.mono HG.out ?_
  rintro e w4 ⟨v, rfl, how, -, h4, -⟩
  have HB := Hid.mk' how.bs
  have hv := fl_victim (show Fl (fun _ => False) w w4 gt aw from h4)
  rw [aw_vic.1, aw_vic.2] at hv
  have HV := Hid.mk' hv
  obtain ⟨ao, nn, cap, rfl⟩ := how.bs.sl
  clear how h4 hv
  go_wp2_with fail
  refine Calls.mono HV.out ?_
  rintro e w5 ⟨rfl, h5, g5⟩
  have HA5 : Hid (Grow w5 (w5.alloc (.cells #[.int .u8 1] 5))) := (But.refl _ w5).alloc _
  have HS := Hid.mk' (same_any (HB.out.but (g5.trans HA5.out) (fun _ _ _ h => h)) (lit1F w5 1 (by decide)))
  have HGR := Hid.mk' (h5.grow.trans HA5.out)
  clear h5 g5
  go_wp2_with fail
  refine Calls.mono HS.out ?_
  rintro e w6 ⟨rfl, d, hw⟩
  have HG6 : Hid (Grow w w6) := by rw [hw]; exact HGR.out.drewN
  clear hw
  go_wp2
  go_ret
  exact ⟨rfl, HG6.out⟩
end Go.Proofs.Ytmlklmhochihbaa
/- What a walk is told of a slice of records that came in, whatever each of them holds. -/
namespace Go.Proofs.Ytmlklmhochihbaa
open Go.ChangeShapes Go.WideShapes Go.ChangeAt Go.RowKit Go.Deep

/-- The slice v holds n records of k cells each. -/
def Rws {α : Type} (k : Nat) (cells : α → List Value) (ok : α → Prop) (w : World) (v : Value) (n : Nat) (A : Nat → α) : Prop :=
  n ≤ 140737488351232 ∧ ((n = 0 ∧ ∃ ao cap, v = .slice ao 0 cap) ∨ (0 < n ∧ ∃ b off cap, v = .slice (some ⟨b, off, none⟩) n cap ∧ n ≤ cap ∧ b < w.heap.size ∧ ∀ i, i < n → ok (A i) ∧ ∀ c u, (cells (A i))[c]? = some u → w.cell? ⟨b, off + i * k + c, none⟩ = some u))
section
variable {α : Type} {k : Nat} {cells : α → List Value} {ok : α → Prop} {w w' : World} {v : Value} {n : Nat} {A : Nat → α} {R : Nat → Prop}
theorem Rws.but (h : Rws k cells ok w v n A) (hb : But R w w') (hr : ∀ j, v.ownBlock = some j → j < w.heap.size → ¬ R j) : Rws k cells ok w' v n A := by
  obtain ⟨h1, h2 | ⟨h0, b, off, cap, rfl, h3, h4, h5⟩⟩ := h
  · exact ⟨h1, .inl h2⟩
  · exact ⟨h1, .inr ⟨h0, b, off, cap, rfl, h3, Nat.lt_of_lt_of_le h4 hb.size, fun i hi => ⟨(h5 i hi).1, fun c u hu => (World.cell?_of_block (hb.block b h4 (hr b rfl h4))).trans ((h5 i hi).2 c u hu)⟩⟩⟩
theorem Rws.grow (h : Rws k cells ok w v n A) (hb : Grow w w') : Rws k cells ok w' v n A := h.but hb (fun _ _ _ h => h)
theorem Rws.len (h : Rws k cells ok w v n A) : ∃ ao cap, v = .slice ao n cap := by
  obtain ⟨h1, ⟨rfl, ao, cap, rfl⟩ | ⟨h0, b, off, cap, rfl, -⟩⟩ := h
  · exact ⟨ao, cap, rfl⟩
  · exact ⟨_, cap, rfl⟩
theorem Rws.at (h : Rws k cells ok w v n A) {i : Nat} (hi : i < n) : ∃ b off cap, v = .slice (some ⟨b, off, none⟩) n cap ∧ b < w.heap.size ∧ ∀ i, i < n → ok (A i) ∧ ∀ c u, (cells (A i))[c]? = some u → w.cell? ⟨b, off + i * k + c, none⟩ = some u := by
  obtain ⟨h1, ⟨rfl, _⟩ | ⟨h0, b, off, cap, rfl, -, h4, h5⟩⟩ := h
  · omega
  · exact ⟨b, off, cap, rfl, h4, h5⟩
theorem Rws.okAt (h : Rws k cells ok w v n A) {i : Nat} (hi : i < n) : ok (A i) := by
  obtain ⟨b, off, cap, -, -, h5⟩ := h.at hi
  exact (h5 i hi).1
end
section
variable {H : Type} {enc : TypeId × Value → H} {P : Program} {w : World} {base : Nat} {spare : Nat → Bool} {held : Bool}
theorem view_rows {α : Type} (d0 : α) {k : Nat} {cells : α → List Value} {ok : α → Prop} {t e : TypeId} {v : Value} {d : DataW H} {ps : List MemPlace} {r : Reach} {b0 : Nat} {ts : List TypeId} {ds : List (DataW H)} {j : Nat}
    (hu : P.underlying t = some (.slice e)) (hce : P.cellsOf e = k) (hk : 0 < k) (hbe : 1 ≤ P.bytesOf e) (hne : ∀ a, cells a ≠ [])
    (hop : ∀ m cs x, DataW.trod enc P w base spare held m e cs = some x → cs.length = k → ∃ F : α, cs = cells F ∧ ok F)
    (hval : Value.okWide P w r b0 t v) (h : DataW.Trod enc P w base spare held t v d ps) (hlt : ∀ x ∈ ps, x.block < w.heap.size)
    (hsz : (DataW.weightsEach P ts ds).all (· ≤ reachBytes) = true) (ht : ts[j]? = some t) (hd : ds[j]? = some d) : ∃ n A, Rws k cells ok w v n A := by
  obtain ⟨a0, len, cap, rfl⟩ := okWide_slice hu hval
  obtain ⟨fuel, hfu⟩ := h
  rcases open_slice hu hfu with ⟨hcs, _⟩ | ⟨a, len', cap', m, n, D, Pl, hcs, _, hl, hm, hmm, hx, hel⟩
  · simp [Value.cells] at hcs
    obtain ⟨rfl, rfl, rfl⟩ := hcs
    exact ⟨0, fun _ => d0, by omega, .inl ⟨rfl, _, _, rfl⟩⟩
  · simp [Value.cells] at hcs
    obtain ⟨rfl, rfl, rfl⟩ := hcs
    simp only [Prod.mk.injEq] at hx
    obtain ⟨rfl, rfl⟩ := hx
    have hlm : len ≤ m := by rw [hmm]; split <;> omega
    have hreach : len ≤ 140737488351232 := by
      have h1 := sized_slice hsz ht hd hu
      simp only [List.length_map, List.length_range, reachBytes] at h1
      have h2 : len + (m - len) ≤ (len + (m - len)) * P.bytesOf e := Nat.le_mul_of_pos_right _ hbe
      omega
    have hfl : ∀ i, i < len → ∃ F : α, (∀ c u, (cells F)[c]? = some u → w.cell? (a.add (i * k + c)) = some u) ∧ ok F := by
      intro i hi
      obtain ⟨cs', h1, h2⟩ := hel i (by omega)
      rw [hce] at h1
      obtain ⟨_, hlen, hcell⟩ := World.cells?_some h1
      obtain ⟨F, hc, h3⟩ := hop _ _ _ h2 hlen
      refine ⟨F, fun c u hcu => ?_, h3⟩
      rw [← hc] at hcu
      have hlt' : c < k := by
        rcases Nat.lt_or_ge c k with h | h
        · exact h
        · rw [List.getElem?_eq_none (by omega)] at hcu; cases hcu
      have := hcell c hlt'
      rw [add_add] at this
      exact this.trans hcu
    haveI : Inhabited α := ⟨d0⟩
    obtain ⟨F, hF⟩ := choose_lt (α := α) (p := fun i F => (∀ c u, (cells F)[c]? = some u → w.cell? (a.add (i * k + c)) = some u) ∧ ok F) hfl
    refine ⟨len, F, hreach, ?_⟩
    by_cases h0 : len = 0
    · subst h0; exact .inl ⟨rfl, _, _, rfl⟩
    · right
      obtain ⟨b, off, spot⟩ := a
      have hspot : spot = none := by
        obtain ⟨hc, _⟩ := hF 0 (by omega)
        obtain ⟨u, hu0⟩ : ∃ u, (cells (F 0))[0]? = some u := by
          cases hq : cells (F 0) with
          | nil => exact absurd hq (hne _)
          | cons x l => exact ⟨x, rfl⟩
        have := World.cell?_spot (hc 0 _ hu0)
        simpa [Addr.add] using this
      subst hspot
      refine ⟨by omega, b, off, cap, rfl, hl, hlt (.cell b off) (List.mem_append_left _ (MemPlace.mem_row.2 ⟨0, ?_, by simp⟩)), fun i hi => ?_⟩
      · rw [hce]
        exact Nat.mul_pos (by omega) hk
      · obtain ⟨hc, h1⟩ := hF i hi
        refine ⟨h1, fun c u hcu => ?_⟩
        rw [Nat.add_assoc, ← add_plain]; exact hc c u hcu
end
end Go.Proofs.Ytmlklmhochihbaa
/- Bytes within a record that came in. -/
namespace Go.Proofs.Ytmlklmhochihbaa
open Go.ChangeShapes Go.WideShapes Go.ChangeAt Go.RowKit Go.Deep

section
variable {H : Type} {enc : TypeId × Value → H} {P : Program} {w : World} {base : Nat} {spare : Nat → Bool} {held : Bool}
theorem dweightsAll_mem {e : TypeId} : ∀ {l : List (DataW H)} {d : DataW H}, d ∈ l → ∀ n ∈ d.weights P e, n ∈ DataW.weightsAll P e l
  | x :: r, d, hd, n, hn => by
    simp only [DataW.weightsAll, List.mem_append]
    rcases List.mem_cons.1 hd with rfl | hd
    · exact .inl hn
    · exact .inr (dweightsAll_mem hd n hn)

theorem dview_inner {t e : TypeId} {v : Value} {d : DataW H} {ps : List MemPlace} {fuel : Nat}
    (hu : P.underlying t = some (.slice e)) (hf : P.underlying e = some (.int .u8)) (hc : P.cellsOf e = 1) (hb : P.bytesOf e = 1)
    (h : DataW.trod enc P w base spare held fuel t [v] = some (d, ps)) (hlt : ∀ x ∈ ps, x.block < w.heap.size) (hsz : ∀ n ∈ d.weights P t, n ≤ reachBytes) : ∃ zs, Bs w v zs ∧ zs.length ≤ 140737488351232 := by
  rcases open_slice1 hu hc h with ⟨hcs, _⟩ | ⟨a, len, cap, m, n, V, D, Pl, hcs, _, hl, hm, hmm, hx, hcell⟩
  · simp only [List.cons.injEq, and_true] at hcs
    subst hcs
    exact ⟨[], Bs.nil _, by simp⟩
  · simp only [List.cons.injEq, and_true] at hcs
    subst hcs
    simp only [Prod.mk.injEq] at hx
    obtain ⟨rfl, rfl⟩ := hx
    have hlm : len ≤ m := by rw [hmm]; split <;> omega
    have hreach : len * 1 ≤ 140737488351232 := by
      have := hsz ((len + (m - len)) * 1) (by simp [DataW.weights, hu, hb])
      simp only [reachBytes] at this
      omega
    have hfl : ∀ i, i < len → ∃ b : Nat, V i = .int .u8 (b : Int) ∧ b < 256 := by
      intro i hi
      obtain ⟨b, hb1, _, hw0⟩ := DataW.trod_int hf (hcell i (by omega)).2
      obtain ⟨hw, hw2⟩ : 0 ≤ b ∧ b < 256 := by
        have h8 : IntKind.u8.min ≤ b ∧ b ≤ IntKind.u8.max := by simpa [Lit.wf, go_sem] using hw0
        have e1 : IntKind.u8.min = 0 := rfl
        have e2 : IntKind.u8.max = 255 := rfl
        omega
      simp only [List.cons.injEq, and_true] at hb1
      exact ⟨b.toNat, by rw [hb1, Int.toNat_of_nonneg hw], by omega⟩
    obtain ⟨B, hB⟩ := choose_lt (α := Nat) (p := fun i b => V i = .int .u8 (b : Int) ∧ b < 256) hfl
    refine ⟨(List.range len).map B, ⟨?_, by simp; omega, ?_⟩, by simpa using hreach⟩
    · intro z hz
      obtain ⟨i, hi, rfl⟩ := List.mem_map.1 hz
      exact (hB i (by simpa using hi)).2
    · by_cases h0 : len = 0
      · subst h0; exact .inl ⟨by simp, .inr ⟨_, _, rfl⟩⟩
      · right
        obtain ⟨b, off, spot⟩ := a
        have hspot : spot = none := by simpa [Addr.add] using World.cell?_spot (hcell 0 (by omega)).1
        subst hspot
        refine ⟨by simp; omega, b, off, cap, by simp, by simpa using hl, hlt (.cell b off) (List.mem_append_left _ (MemPlace.mem_row.2 ⟨0, by omega, by simp⟩)), ?_⟩
        intro i hi
        have hi' : i < len := by simpa using hi
        rw [← add_plain, (hcell i (by omega)).1, (hB i hi').1]
        simp [hi']
end
end Go.Proofs.Ytmlklmhochihbaa
/- What a walk is told of a slice of float64 that came in: its numbers by their bits, and the cells in which they lie. -/
namespace Go.Proofs.Ytmlklmhochihbaa
open Go.ChangeShapes Go.WideShapes Go.ChangeAt Go.RowKit Go.Deep

section
variable {H : Type} {enc : TypeId × Value → H} {P : Program} {w : World} {base : Nat} {spare : Nat → Bool} {held : Bool}

theorem trod_float {t : TypeId} {k : FloatKind} {fuel : Nat} {cs : List Value} {x : DataW H × List MemPlace} (ht : P.underlying t = some (.float k)) (h : DataW.trod enc P w base spare held fuel t cs = some x) :
    ∃ b, cs = [.float k b] ∧ x = (.lit (.float k b), []) ∧ (Lit.float k b).wf = true := by
  cases fuel with
  | zero => simp [DataW.trod] at h
  | succ n =>
    unfold DataW.trod at h
    rw [ht] at h
    split at h <;> simp_all

/-- The slice v holds the numbers zs: nothing, or a row of cells below the heap's end. -/
def IsFloats (w : World) (v : Value) (zs : List Nat) : Prop :=
  (∀ z ∈ zs, z < 18446744073709551616) ∧ zs.length * 8 ≤ 140737488351232 ∧
  ((zs = [] ∧ ∃ ao cap, v = .slice ao 0 cap) ∨
   (0 < zs.length ∧ ∃ b off cap, v = .slice (some ⟨b, off, none⟩) zs.length cap ∧ zs.length ≤ cap ∧ b < w.heap.size ∧
      ∀ i, i < zs.length → w.cell? ⟨b, off + i, none⟩ = some (.float .f64 (zs.getD i 0))))

theorem view_floats {t e : TypeId} {v : Value} {d : DataW H} {ps : List MemPlace} {r : Reach} {b0 : Nat} {ts : List TypeId} {ds : List (DataW H)} {j : Nat}
    (hu : P.underlying t = some (.slice e)) (hf : P.underlying e = some (.float .f64)) (hc : P.cellsOf e = 1) (hb : P.bytesOf e = 8)
    (hval : Value.okWide P w r b0 t v) (h : DataW.Trod enc P w base spare held t v d ps) (hlt : ∀ x ∈ ps, x.block < w.heap.size)
    (hsz : (DataW.weightsEach P ts ds).all (· ≤ reachBytes) = true) (ht : ts[j]? = some t) (hd : ds[j]? = some d) : ∃ zs, IsFloats w v zs := by
  obtain ⟨a0, len, cap, rfl⟩ := okWide_slice hu hval
  obtain ⟨fuel, hf1⟩ := h
  rcases open_slice1 hu hc hf1 with ⟨hcs, _⟩ | ⟨a, len', cap', m, n, V, D, Pl, hcs, _, hl, hm, hmm, hx, hcell⟩
  · simp [Value.cells] at hcs
    obtain ⟨rfl, rfl, rfl⟩ := hcs
    exact ⟨[], by simp, by simp, .inl ⟨rfl, _, _, rfl⟩⟩
  · simp [Value.cells] at hcs
    obtain ⟨rfl, rfl, rfl⟩ := hcs
    simp only [Prod.mk.injEq] at hx
    obtain ⟨rfl, rfl⟩ := hx
    have hlm : len ≤ m := by rw [hmm]; split <;> omega
    have hreach : len * 8 ≤ 140737488351232 := by
      have := sized_slice hsz ht hd hu
      rw [hb] at this
      simp only [List.length_map, List.length_range, reachBytes] at this
      omega
    have hfl : ∀ i, i < len → ∃ b, V i = .float .f64 b ∧ b < 18446744073709551616 := by
      intro i hi
      obtain ⟨b, hb1, _, hw⟩ := trod_float hf (hcell i (by omega)).2
      simp only [List.cons.injEq, and_true] at hb1
      exact ⟨b, hb1, by simpa [Lit.wf] using hw⟩
    obtain ⟨B, hB⟩ := choose_lt (α := Nat) (p := fun i b => V i = .float .f64 b ∧ b < 18446744073709551616) hfl
    refine ⟨(List.range len).map B, ?_, by simpa using hreach, ?_⟩
    · intro z hz
      obtain ⟨i, hi, rfl⟩ := List.mem_map.1 hz
      exact (hB i (by simpa using hi)).2
    · by_cases h0 : len = 0
      · subst h0; exact .inl ⟨by simp, _, _, rfl⟩
      · right
        obtain ⟨b, off, spot⟩ := a
        have hspot : spot = none := by simpa [Addr.add] using World.cell?_spot (hcell 0 (by omega)).1
        subst hspot
        refine ⟨by simp; omega, b, off, cap, by simp, by simpa using hl, hlt (.cell b off) (List.mem_append_left _ (MemPlace.mem_row.2 ⟨0, by omega, by simp⟩)), ?_⟩
        intro i hi
        have hi' : i < len := by simpa using hi
        rw [← add_plain, (hcell i (by omega)).1, (hB i hi').1]
        simp [hi']
end
end Go.Proofs.Ytmlklmhochihbaa
/- What a walk is told of acts that came in. -/
namespace Go.Proofs.Ytmlklmhochihbaa
open Go.ChangeShapes Go.WideShapes Go.ChangeAt Go.RowKit Go.Deep

section
variable {H : Type} {enc : TypeId × Value → H} {P : Program} {w : World} {base : Nat} {spare : Nat → Bool} {held : Bool}
theorem view_rowsB {α : Type} (d0 : α) {k : Nat} {cells : α → List Value} {ok : α → Prop} {t e : TypeId} {v : Value} {d : DataW H} {ps : List MemPlace} {r : Reach} {b0 : Nat} {ts : List TypeId} {ds : List (DataW H)} {j : Nat}
    (hu : P.underlying t = some (.slice e)) (hce : P.cellsOf e = k) (hk : 0 < k) (hbe : 1 ≤ P.bytesOf e) (hne : ∀ a, cells a ≠ [])
    (hop : ∀ m cs x, DataW.trod enc P w base spare held m e cs = some x → cs.length = k → (∀ p ∈ x.2, p.block < w.heap.size) → (∀ n ∈ x.1.weights P e, n ≤ reachBytes) → ∃ F : α, cs = cells F ∧ ok F)
    (hval : Value.okWide P w r b0 t v) (h : DataW.Trod enc P w base spare held t v d ps) (hlt : ∀ x ∈ ps, x.block < w.heap.size)
    (hsz : (DataW.weightsEach P ts ds).all (· ≤ reachBytes) = true) (ht : ts[j]? = some t) (hd : ds[j]? = some d) : ∃ n A, Rws k cells ok w v n A := by
  obtain ⟨a0, len, cap, rfl⟩ := okWide_slice hu hval
  obtain ⟨fuel, hfu⟩ := h
  rcases open_slice hu hfu with ⟨hcs, _⟩ | ⟨a, len', cap', m, n, D, Pl, hcs, _, hl, hm, hmm, hx, hel⟩
  · simp [Value.cells] at hcs
    obtain ⟨rfl, rfl, rfl⟩ := hcs
    exact ⟨0, fun _ => d0, by omega, .inl ⟨rfl, _, _, rfl⟩⟩
  · simp [Value.cells] at hcs
    obtain ⟨rfl, rfl, rfl⟩ := hcs
    simp only [Prod.mk.injEq] at hx
    obtain ⟨rfl, rfl⟩ := hx
    have hlm : len ≤ m := by rw [hmm]; split <;> omega
    have hreach : len ≤ 140737488351232 := by
      have h1 := sized_slice hsz ht hd hu
      simp only [List.length_map, List.length_range, reachBytes] at h1
      have h2 : len + (m - len) ≤ (len + (m - len)) * P.bytesOf e := Nat.le_mul_of_pos_right _ hbe
      omega
    have hfl : ∀ i, i < len → ∃ F : α, (∀ c u, (cells F)[c]? = some u → w.cell? (a.add (i * k + c)) = some u) ∧ ok F := by
      intro i hi
      obtain ⟨cs', h1, h2⟩ := hel i (by omega)
      rw [hce] at h1
      obtain ⟨_, hlen, hcell⟩ := World.cells?_some h1
      obtain ⟨F, hc, h3⟩ := hop _ _ _ h2 hlen (fun x hx => hlt x (List.mem_append_right _ (List.mem_flatMap.2 ⟨i, by simp; omega, hx⟩))) (fun n' hk' => by
        have hm2 : n' ∈ (DataW.slice ((List.range len).map D) ((List.range (m - len)).map fun j => D (len + j))).weights P t := by
          simp only [DataW.weights, hu]
          refine List.mem_cons_of_mem _ (List.mem_append_left _ (dweightsAll_mem (d := D i) ?_ n' hk'))
          exact List.mem_map.2 ⟨i, by simpa using hi, rfl⟩
        have := List.all_eq_true.1 hsz _ (DataW.weights_mem_each ht hd n' hm2)
        simpa using this)
      refine ⟨F, fun c u hcu => ?_, h3⟩
      rw [← hc] at hcu
      have hlt' : c < k := by
        rcases Nat.lt_or_ge c k with h | h
        · exact h
        · rw [List.getElem?_eq_none (by omega)] at hcu; cases hcu
      have := hcell c hlt'
      rw [add_add] at this
      exact this.trans hcu
    haveI : Inhabited α := ⟨d0⟩
    obtain ⟨F, hF⟩ := choose_lt (α := α) (p := fun i F => (∀ c u, (cells F)[c]? = some u → w.cell? (a.add (i * k + c)) = some u) ∧ ok F) hfl
    refine ⟨len, F, hreach, ?_⟩
    by_cases h0 : len = 0
    · subst h0; exact .inl ⟨rfl, _, _, rfl⟩
    · right
      obtain ⟨b, off, spot⟩ := a
      have hspot : spot = none := by
        obtain ⟨hc, _⟩ := hF 0 (by omega)
        obtain ⟨u, hu0⟩ : ∃ u, (cells (F 0))[0]? = some u := by
          cases hq : cells (F 0) with
          | nil => exact absurd hq (hne _)
          | cons x l => exact ⟨x, rfl⟩
        have := World.cell?_spot (hc 0 _ hu0)
        simpa [Addr.add] using this
      subst hspot
      refine ⟨by omega, b, off, cap, rfl, hl, hlt (.cell b off) (List.mem_append_left _ (MemPlace.mem_row.2 ⟨0, ?_, by simp⟩)), fun i hi => ?_⟩
      · rw [hce]
        exact Nat.mul_pos (by omega) hk
      · obtain ⟨hc, h1⟩ := hF i hi
        refine ⟨h1, fun c u hcu => ?_⟩
        rw [Nat.add_assoc, ← add_plain]; exact hc c u hcu
end
structure FA where
  kind : Int
  task : Int
  key : Int
  v : Value
  bs : List Nat
  wr : Bool
  y : Nat
def fac (a : FA) : List Value := [.int .i64 a.kind, .int .i64 a.task, .int .i64 a.key, a.v, .bool a.wr, .float .f64 a.y]
structure FA.ok (w : World) (a : FA) : Prop where
  kind : i64 a.kind
  task : i64 a.task
  key : i64 a.key
  bs : Bs w a.v a.bs
  len : a.bs.length ≤ 140737488351232
abbrev FActs (w0 w : World) (v : Value) (n : Nat) (A : Nat → FA) : Prop := Rws 6 fac (FA.ok w0) w v n A
section
variable {H : Type} {enc : TypeId × Value → H} {w : World} {base : Nat} {spare : Nat → Bool} {held : Bool}
theorem wfJ {z : Int} (h : (Lit.int .i64 z).wf = true) : i64 z := by
  have h1 : IntKind.i64.min ≤ z ∧ z ≤ IntKind.i64.max := by simpa [Lit.wf, go_sem] using h
  exact h1
set_option maxRecDepth 100000 in
theorem trod_fa {m : Nat} {cs : List Value} {x : DataW H × List MemPlace} (h : DataW.trod enc Try.prog w base spare held m 34 cs = some x) (hl : cs.length = 6) (hlt : ∀ p ∈ x.2, p.block < w.heap.size) (hsz : ∀ n ∈ x.1.weights Try.prog 34, n ≤ reachBytes) : ∃ F : FA, cs = fac F ∧ F.ok w := by
  obtain ⟨d, ps⟩ := x
  obtain ⟨xs, nn, _, hx, _, hxl, hf⟩ := DataW.trod_struct Try.underlying34 h
  simp only [Prod.mk.injEq] at hx
  obtain ⟨hD, hP⟩ := hx
  match xs, hxl with
  | [x0, x1, x2, x3, x4, x5], _ =>
    have c1 : Try.prog.cellsOf 3 = 1 := by kernel_rfl
    have cs1 : Try.prog.cellsOf 31 = 1 := by kernel_rfl
    have cb : Try.prog.cellsOf 4 = 1 := by kernel_rfl
    have cf : Try.prog.cellsOf 32 = 1 := by kernel_rfl
    have g0 : DataW.trod enc Try.prog w base spare held nn 3 ((cs.drop 0).take (Try.prog.cellsOf 3)) = some x0 := hf 0 _ rfl
    have g1 : DataW.trod enc Try.prog w base spare held nn 3 ((cs.drop 1).take (Try.prog.cellsOf 3)) = some x1 := hf 1 _ rfl
    have g2 : DataW.trod enc Try.prog w base spare held nn 3 ((cs.drop 2).take (Try.prog.cellsOf 3)) = some x2 := hf 2 _ rfl
    have g3 : DataW.trod enc Try.prog w base spare held nn 31 ((cs.drop 3).take (Try.prog.cellsOf 31)) = some x3 := hf 3 _ rfl
    have g4 : DataW.trod enc Try.prog w base spare held nn 4 ((cs.drop 4).take (Try.prog.cellsOf 4)) = some x4 := hf 4 _ rfl
    have g5 : DataW.trod enc Try.prog w base spare held nn 32 ((cs.drop 5).take (Try.prog.cellsOf 32)) = some x5 := hf 5 _ rfl
    rw [c1] at g0 g1 g2
    rw [cs1] at g3
    rw [cb] at g4
    rw [cf] at g5
    match cs, hl with
    | [a0, a1, a2, p, q, r], _ =>
      have g0' : DataW.trod enc Try.prog w base spare held nn 3 [a0] = some x0 := g0
      have g1' : DataW.trod enc Try.prog w base spare held nn 3 [a1] = some x1 := g1
      have g2' : DataW.trod enc Try.prog w base spare held nn 3 [a2] = some x2 := g2
      have g3' : DataW.trod enc Try.prog w base spare held nn 31 [p] = some (x3.1, x3.2) := g3
      have g4' : DataW.trod enc Try.prog w base spare held nn 4 [q] = some x4 := g4
      have g5' : DataW.trod enc Try.prog w base spare held nn 32 [r] = some x5 := g5
      obtain ⟨z0, hz0, _, w0⟩ := DataW.trod_int Try.underlying3 g0'
      obtain ⟨z1, hz1, _, w1⟩ := DataW.trod_int Try.underlying3 g1'
      obtain ⟨z2, hz2, _, w2⟩ := DataW.trod_int Try.underlying3 g2'
      obtain ⟨z4, hz4, _⟩ := DataW.trod_bool Try.underlying4 g4'
      obtain ⟨z5, hz5, _, w5⟩ := trod_float Try.underlying32 g5'
      have hin : ∀ (j : Nat) (t : TypeId) (dd : DataW H), ([3, 3, 3, 31, 4, 32] : List TypeId)[j]? = some t → ([x0.1, x1.1, x2.1, x3.1, x4.1, x5.1] : List (DataW H))[j]? = some dd → ∀ k ∈ dd.weights Try.prog t, k ≤ reachBytes := fun j t dd hj hdd k hk => by
        refine hsz k ?_
        rw [hD]
        simp only [DataW.weights, Try.underlying34]
        exact DataW.weights_mem_each (j := j) hj hdd k hk
      obtain ⟨zd, hbd, hbl⟩ := dview_inner Try.underlying31 Try.underlying5 (by kernel_rfl) (by kernel_rfl) g3' (fun x hx => hlt x (by rw [hP]; simp [hx])) (hin 3 _ _ rfl rfl)
      simp only [List.cons.injEq, and_true] at hz0 hz1 hz2 hz4 hz5
      exact ⟨⟨z0, z1, z2, p, zd, z4, z5⟩, by rw [hz0, hz1, hz2, hz4, hz5]; rfl, wfJ w0, wfJ w1, wfJ w2, hbd, hbl⟩
set_option maxRecDepth 100000 in
theorem view_facts {v : Value} {d : DataW H} {ps : List MemPlace} {r : Reach} {b0 : Nat} {ts : List TypeId} {ds : List (DataW H)} {j : Nat}
    (hval : Value.okWide Try.prog w r b0 22 v) (h : DataW.Trod enc Try.prog w base spare held 22 v d ps) (hlt : ∀ x ∈ ps, x.block < w.heap.size)
    (hsz : (DataW.weightsEach Try.prog ts ds).all (· ≤ reachBytes) = true) (ht : ts[j]? = some 22) (hd : ds[j]? = some d) : ∃ n A, FActs w w v n A :=
  view_rowsB (⟨0, 0, 0, .slice none 0 0, [], false, 0⟩ : FA) Try.underlying22 (by kernel_rfl) (by decide) (of_decide_eq_true (by kernel_rfl)) (fun a h => by cases h) (fun m cs x h1 h2 h3 h4 => trod_fa h1 h2 h3 h4) hval h hlt hsz ht hd
end
/-- Is none of the first ones great? -/
def FSmall (n : Nat) (A : Nat → FA) : Prop := ∀ i, i < n → i < 120 → (A i).bs.length ≤ 1000
set_option maxRecDepth 100000 in
set_option maxHeartbeats 1000000 in
theorem fgreat_any {w : World} {v : Value} {n : Nat} {A : Nat → FA} (h : FActs w w v n A) : Calls Try.prog 8 #[v] w fun e w' => w' = w ∧ (e = .returned (.bool true) ∨ (e = .returned (.bool false) ∧ FSmall n A)) := by
  have HH := Hid.mk' h
  have hn := h.1
  obtain ⟨ao, cap, rfl⟩ := h.len
  have hni : (n : Int) ≤ 140737488351232 := by omega
  clear h hn
  go_enter Try.func8, Try.ntmps8
  go_wp2
  go_loopw [3] (fun iv wr => ∃ i : Nat, i ≤ n ∧ i ≤ 120 ∧ iv = .int .i64 i ∧ (∀ j, j < i → (A j).bs.length ≤ 1000) ∧ wr = w) (fun iv _ => n - (Go.RowKit.intOf iv).toNat)
  case atStart => exact ⟨0, Nat.zero_le _, Nat.zero_le _, rfl, fun j hj => absurd hj (by omega), rfl⟩
  case round =>
    obtain ⟨i, hin, hi0, rfl, hne, rfl⟩ := hrel
    have HNE := Hid.mk' hne
    clear hne
    by_cases hlt : i < n ∧ i < 120
    · have hlti : (i : Int) < (n : Int) := by omega
      have hlt2 : (i : Int) < 120 := by omega
      obtain ⟨b, off, cap', e1, -, hA⟩ := HH.out.at hlt.1
      simp only [Value.slice.injEq] at e1
      obtain ⟨rfl, -, rfl⟩ := e1
      obtain ⟨hok, hcell⟩ := hA i hlt.1
      obtain ⟨vo, vc, hvl, -⟩ := hok.bs.gen
      have c3 : wr.cell? ⟨b, off + i * 6 + 3, none⟩ = some (.slice vo (A i).bs.length vc) := by rw [← hvl]; exact hcell 3 _ rfl
      have HNX : Hid ((A i).bs.length ≤ 1000 → ∀ j, j < i + 1 → (A j).bs.length ≤ 1000) := fun hk j hj => by
        by_cases e : j < i
        · exact HNE.out j e
        · rw [show j = i by omega]; exact hk
      generalize (A i).bs.length = L at *
      clear hA hok hcell hvl
      by_cases hL : L ≤ 1000
      · have hLi : ¬ (1000 < (L : Int)) := by omega
        have HN2 := Hid.mk' (HNX.out hL)
        clear hL
        go_wp2
        exact ⟨⟨i + 1, by omega, by omega, by go_num, HN2.out, by first | rfl | trivial⟩, by simp [Go.RowKit.intOf]; omega⟩
      · have hLi : 1000 < (L : Int) := by omega
        clear hL
        go_wp2
        go_ret
        exact ⟨rfl, .inl rfl⟩
    · have HFS : Hid (FSmall n A) := fun j hj1 hj2 => HNE.out j (by omega)
      by_cases h1 : i < n
      · have hlti : (i : Int) < (n : Int) := by omega
        have hlt2 : ¬ ((i : Int) < 120) := by omega
        go_wp2
        go_ret
        exact ⟨rfl, .inr ⟨rfl, HFS.out⟩⟩
      · have hlti : ¬ ((i : Int) < (n : Int)) := by omega
        go_wp2
        go_ret
        exact ⟨rfl, .inr ⟨rfl, HFS.out⟩⟩
end Go.Proofs.Ytmlklmhochihbaa
/- The reference's Pick: what is left of a number, for any divisor. -/
namespace Go.Proofs.Ytmlklmhochihbaa
open Go.RowKit

theorem pick_any (x n : Int) (w : World) (h0 : 0 < n) (h1 : n ≤ 1000000000) :
    Calls Try.prog 13 #[.int .i64 x, .int .i64 n] w fun e w' => e = .returned (.int .i64 (x % n)) ∧ w' = w := by
  have ht1 : x.tmod n < n := Int.tmod_lt_of_pos x h0
  have ht2 : -n < x.tmod n := by
    have := Int.lt_tmod_of_pos x h0
    omega
  obtain ⟨m, hm⟩ : ∃ m, x.tmod n = m := ⟨_, rfl⟩
  have hem : x % n = if m < 0 then m + n else m := by
    rw [← hm, Int.tmod_eq_emod]
    have h5 := Int.emod_nonneg x (b := n) (by omega)
    have h6 := Int.emod_lt_of_pos x h0
    split
    · rw [if_neg (by omega)]; omega
    · split <;> omega
  rw [hm] at ht1 ht2
  have HEM := Hid.mk' hem
  have hn0 : ¬ n = 0 := by omega
  clear hem
  have hw : IntKind.i64.wrap m = m := by simp [IntKind.wrap, IntKind.bits, IntKind.signed]; omega
  by_cases hneg : m < 0
  · go_enter Try.func13, Try.ntmps13
    go_wp2
    go_ret
    refine ⟨?_, rfl⟩
    rw [HEM.out, if_pos hneg]; rfl
  · go_enter Try.func13, Try.ntmps13
    go_wp2
    go_ret
    refine ⟨?_, rfl⟩
    rw [HEM.out, if_neg (by omega)]; rfl
end Go.Proofs.Ytmlklmhochihbaa
