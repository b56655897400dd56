/- GhRTwice, GhRClash, GhRForged, GhROwn, GhTwo, GhGreat, GhPair, GhPlayed. -/
import Derived.Test.YthpgjbblbhjndaaDoorGhOpnd
import Derived.Test.YthpgjbblbhjndaaDoorGhAwake
import Derived.Test.YthpgjbblbhjndaaDoorGhActs
import Derived.Test.YthpgjbblbhjndaaDoorGhHash
import Derived.Test.YthpgjbblbhjndaaDoorShaRefOf
/- The reference's log: Twice. -/
namespace Go.Proofs.YthpgjbblbhjndaaDoor
open Go.RowKit

/-- What a look for two tells. -/
def RTold (p : Nat → Nat → Bool) (n : Nat) (e : Ending) : Prop :=
  (e = .returned (.tuple #[.int .i64 (-1), .int .i64 (-1)]) ∧ Fst2 p n none) ∨ ∃ i j : Nat, e = .returned (.tuple #[.int .i64 (i : Int), .int .i64 (j : Int)]) ∧ Fst2 p n (some (i, j))
structure RTo (w : World) (p : Nat → Nat → Bool) (n : Nat) (e : Ending) (w' : World) : Prop where
  told : RTold p n e
  grow : Grow w w'
theorem still_act {P : Program} {ops : Array Oper} {ι : Type} {W : ι → World} {Qa : Act → Prop} {l : List Nat} {a : Act} (h : ∀ K : Act → Prop, (∀ a, wpStill P ops W Qa l a → K a) → K a) : wpStill P ops W Qa l a := h _ (fun _ h => h)
theorem still_past {P : Program} {ops : Array Oper} {ι : Type} {W : ι → World} {Qa : Act → Prop} {l0 : List Nat} {a : Act} (g : Nat) (b : Bool) (d : Tmp) (l rest : List Nat) (hl : l0 = l ++ rest) (hg : slotAt ops g = some d) (hs : skipsAll ops g b l = true) (hv : a.tmps[d]? = some (.bool b)) (h : ∀ K : Act → Prop, (∀ a, wpStill P ops W Qa rest a → K a) → K (putUndef ops l a)) : wpStill P ops W Qa l0 a := by
  rw [hl]
  exact still_skips g b d hg l a hs hv (h _ (fun _ h => h))
def undefs : List Nat → Act → Act
  | [], a => a
  | d :: l, a => undefs l (a.put (some d) undef)
theorem undefs_eq {ops : Array Oper} : ∀ (l ds : List Nat) (a : Act), l.map (slotAt ops) = ds.map some → putUndef ops l a = undefs ds a
  | [], [], _, _ => rfl
  | [], _ :: _, _, h => by cases h
  | _ :: _, [], _, h => by cases h
  | i :: l, d :: ds, a, h => by
    simp only [List.map_cons, List.cons.injEq] at h
    show putUndef ops l (a.put (slotAt ops i) undef) = undefs ds (a.put (some d) undef)
    rw [h.1]
    exact undefs_eq l ds _ h.2
theorem still_past2 {P : Program} {ops : Array Oper} {ι : Type} {W : ι → World} {Qa : Act → Prop} {l0 : List Nat} {a : Act} (g : Nat) (b : Bool) (d : Tmp) (l rest ds : List Nat) (hl : l0 = l ++ rest) (hg : slotAt ops g = some d) (hs : skipsAll ops g b l = true) (hd : l.map (slotAt ops) = ds.map some) (hv : a.tmps[d]? = some (.bool b)) (h : ∀ K : Act → Prop, (∀ a, wpStill P ops W Qa rest a → K a) → K (undefs ds a)) : wpStill P ops W Qa l0 a :=
  still_past g b d l rest hl hg hs hv (fun K hK => by rw [undefs_eq l ds a hd]; exact h K hK)
theorem ukt12 : Tryd.prog.underlying 44 = some (.array 12 5) := Tryd.underlying44
theorem i12g : (Tryd.prog.info? 44).map (·.size) = some 12 := by kernel_rfl
theorem shift1 (g o q : Nat) : ((⟨g, o + 1, none⟩ : Addr).add q) = ((⟨g, o, none⟩ : Addr).add (1 + q)) := by
  by_cases h : q = 0
  · subst h; simp [Addr.add]
  · simp [Addr.add, h, Nat.add_assoc]
theorem rtk_at {L : List TE} {i j : Nat} {e f : TE} (hi : L[i]? = some e) (hj : L[j]? = some f) : tk (L.map (·.1)) i j = decide (e.1.1 = f.1.1 ∧ e.1.2.1 = f.1.2.1) := by
  simp [tk, List.getD, hi, hj]
set_option maxRecDepth 100000 in
set_option maxHeartbeats 8000000 in
theorem rtwice_any {w : World} {gx : Nat} {vp vs vo : Value} {Fr G : Nat → Prop} {L : List TE} (hb : Blk w gx 41 [vp, vs, vo]) (hL : TRow w Fr G vs L) (hn : L.length ≤ 1000) :
    Calls Tryd.prog 18 #[.pointer (some ⟨gx, 0, none⟩)] w (RTo w (tk (L.map (·.1))) L.length) := by
  obtain ⟨ao, cap, hve, -⟩ := hL.at (But.refl _ w)
  have HAT : Hid (∀ w', Grow w w' → ∀ i e, L[i]? = some e → ∃ g, ao = some ⟨g, 0, none⟩ ∧ Tv w' G e.1 e.2.1 e.2.2 ∧ ∀ c u, (tc e)[c]? = some u → w'.cell? ((⟨g, i * 15, none⟩ : Addr).add c) = some u) := fun w' hw => by
    obtain ⟨ao', cap', e1, h2⟩ := hL.at hw
    rw [hve] at e1
    cases e1
    exact h2
  subst hve
  have HB := Hid.mk' hb
  obtain ⟨n, hnl⟩ : ∃ n, n = L.length := ⟨_, rfl⟩
  rw [← hnl] at hb HB hn ⊢
  have HN := Hid.mk' hnl
  have HTK := Hid.mk' (fun i j e f => @rtk_at L i j e f)
  obtain ⟨p, hp⟩ : ∃ p, p = tk (L.map (·.1)) := ⟨_, rfl⟩
  rw [← hp] at HTK ⊢
  clear hL hb hnl hp
  go_enter Tryd.func18, Tryd.ntmps18
  go_wp2
  go_loopw [4] (fun jv wr => ∃ j : Nat, j ≤ n ∧ jv = .int .i64 j ∧ (∀ l, l < j → ∀ k, k < l → p k l = false) ∧ Grow w wr) (fun jv _ => n - (intOf jv).toNat)
  case atStart => exact ⟨0, Nat.zero_le _, rfl, fun l hl => absurd hl (Nat.not_lt_zero _), But.refl _ _⟩
  case round =>
    obtain ⟨j, hjn, rfl, hno, hgr⟩ := hrel
    have HNO := Hid.mk' hno
    have HGR := Hid.mk' hgr
    have c1 : wr.cell? ⟨gx, 1, none⟩ = some (.slice ao n cap) := (HB.out.but HGR.out (fun h => h)).cell 1
    clear hno hgr
    by_cases hjlt : j < n
    · have hji : (j : Int) < (n : Int) := by omega
      go_wp2
      clear c1
      go_loopw [5] (fun iv wr => ∃ i : Nat, i ≤ j ∧ iv = .int .i64 i ∧ (∀ k, k < i → p k j = false) ∧ Grow w wr) (fun iv _ => j - (intOf iv).toNat)
      case atStart => exact ⟨0, Nat.zero_le _, rfl, fun k hk => absurd hk (Nat.not_lt_zero _), HGR.out⟩
      case round =>
        obtain ⟨i, hij, rfl, hnoi, hgq⟩ := hrel
        have HNI := Hid.mk' hnoi
        have HGQ := Hid.mk' hgq
        clear hnoi hgq HGR
        by_cases hilt : i < j
        · have hii : (i : Int) < (j : Int) := by omega
          have hin : (i : Int) < (n : Int) := by omega
          obtain ⟨e, he⟩ : ∃ e, L[i]? = some e := ⟨_, List.getElem?_eq_getElem (by have := HN.out; omega)⟩
          obtain ⟨f, hf⟩ : ∃ f, L[j]? = some f := ⟨_, List.getElem?_eq_getElem (by have := HN.out; omega)⟩
          have HP := Hid.mk' (HTK.out i j e f he hf)
          obtain ⟨g, hao, hte, -⟩ := HAT.out w (But.refl _ w) i e he
          obtain ⟨-, -, htf, -⟩ := HAT.out w (But.refl _ w) j f hf
          subst hao
          have HCE : Hid (∀ w', Grow w w' → ∀ c u, (tc e)[c]? = some u → w'.cell? ((⟨g, i * 15, none⟩ : Addr).add c) = some u) := fun w' hw => by
            obtain ⟨g', eg, -, h⟩ := HAT.out w' hw i e he
            cases eg; exact h
          have HCF : Hid (∀ w', Grow w w' → ∀ c u, (tc f)[c]? = some u → w'.cell? ((⟨g, j * 15, none⟩ : Addr).add c) = some u) := fun w' hw => by
            obtain ⟨g', eg, -, h⟩ := HAT.out w' hw j f hf
            cases eg; exact h
          have HC : Hid (∀ w', Grow w w' → w'.cell? ⟨gx, 1, none⟩ = some (.slice (some ⟨g, 0, none⟩) n cap) ∧ w'.cell? ⟨g, i * 15, none⟩ = some (.int .u32 (e.1.1 : Int)) ∧ w'.cell? ⟨g, j * 15, none⟩ = some (.int .u32 (f.1.1 : Int))) := fun w' hw =>
            ⟨(HB.out.but hw (fun h => h)).cell 1, by simpa [Addr.add] using HCE.out w' hw 0 _ (tcells_0 _ _ _), by simpa [Addr.add] using HCF.out w' hw 0 _ (tcells_0 _ _ _)⟩
          have HCN : Hid (∀ w', Grow w w' → (∀ q u, (u8s e.1.2.1)[q]? = some u → w'.cell? ((⟨g, i * 15 + 1, none⟩ : Addr).add q) = some u) ∧ (∀ q u, (u8s f.1.2.1)[q]? = some u → w'.cell? ((⟨g, j * 15 + 1, none⟩ : Addr).add q) = some u)) := fun w' hw =>
            ⟨fun q u hq => by rw [shift1]; exact HCE.out w' hw (1 + q) u (tcells_non hte.nl _ _ q u hq),
             fun q u hq => by rw [shift1]; exact HCF.out w' hw (1 + q) u (tcells_non htf.nl _ _ q u hq)⟩
          have HEN := Hid.mk' hte.nl
          have HFN := Hid.mk' htf.nl
          clear hte htf HCE HCF he hf
          obtain ⟨⟨ee, en, ex⟩, eu⟩ := e
          obtain ⟨⟨fe, fn, fx⟩, fu⟩ := f
          simp only at HP HC HCN HEN HFN
          go_upto_region 7 with fail
          refine region_chain [] [0, 1, 2, 3, 4, 5, 6, 7, 8, 9, 10, 11, 12, 13, 14, 15, 16, 17, 18, 19, 20, 21, 22, 23, 24, 25, 26, 27, 28, 29, 30, 31, 32, 33, 34, 35] (Grow wr) (Grow wr) (by kernel_rfl) (by kernel_rfl) (fun _ _ h k => h.trans k) (fun _ h => h) ((But.refl _ wr).drew) ?_
          intro ι hne X hX
          have c1 : ∀ x, (X x).cell? ⟨gx, 1, none⟩ = some (.slice (some ⟨g, 0, none⟩) n cap) := fun x => (HC.out _ (HGQ.out.trans (hX x))).1
          have c2 : ∀ x, (X x).cell? ⟨g, i * 15, none⟩ = some (.int .u32 (ee : Int)) := fun x => (HC.out _ (HGQ.out.trans (hX x))).2.1
          have c3 : ∀ x, (X x).cell? ⟨g, j * 15, none⟩ = some (.int .u32 (fe : Int)) := fun x => (HC.out _ (HGQ.out.trans (hX x))).2.2
          by_cases hE : ee = fe
          · subst hE
            iterate 25 (refine still_step rfl (fun K hK => ?_); go_simp; refine hK _ ?_; clear hK K)
            obtain ⟨Ne, hNe⟩ : ∃ N, N = (u8s en).toArray := ⟨_, rfl⟩
            obtain ⟨Nf, hNf⟩ : ∃ N, N = (u8s fn).toArray := ⟨_, rfl⟩
            have heq : ∀ w', (Op.equalIn 10000 44 (.agg Ne) (.agg Nf)).run Tryd.prog w' = .ok (decide (en = fn)) w' := fun w' => by rw [hNe, hNf]; exact equalN ukt12 en fn HEN.out HFN.out w'
            have HNe := Hid.mk' hNe
            have HNf := Hid.mk' hNf
            clear hNe hNf
            refine still_val rfl (.agg Ne) rfl (fun x => by rw [HNe.out]; exact run_load_arr ukt12 i12g (HCN.out _ (HGQ.out.trans (hX x))).1 HEN.out rfl rfl) ?_
            intro K hK; go_simp; refine hK _ ?_; clear hK K
            iterate 7 (refine still_step rfl (fun K hK => ?_); go_simp; refine hK _ ?_; clear hK K)
            refine still_val rfl (.agg Nf) rfl (fun x => by rw [HNf.out]; exact run_load_arr ukt12 i12g (HCN.out _ (HGQ.out.trans (hX x))).2 HFN.out rfl rfl) ?_
            intro K hK; go_simp; refine hK _ ?_; clear hK K
            by_cases hN : en = fn
            · rw [decide_eq_true hN] at heq
              have HPT : Hid (p i j = true) := by show _ = _; rw [HP.out, decide_eq_true]; exact ⟨rfl, hN⟩
              clear hN
              iterate 2 (refine still_step rfl (fun K hK => ?_); go_simp; refine hK _ ?_; clear hK K)
              refine still_nil ?_
              clear c1 c2 c3 hX hne heq
              intro w' hw'
              have HW' := Hid.mk' (HGQ.out.trans hw')
              clear hw'
              go_wp2
              exact bodyPost_ret (results_tmp2 rfl _ _ _) rfl ⟨.inr ⟨i, j, rfl, by omega, by omega, HPT.out, HNI.out, HNO.out⟩, HW'.out⟩
            · rw [decide_eq_false hN] at heq
              have HPT : Hid (p i j = false) := by show _ = _; rw [HP.out, decide_eq_false]; exact fun h => hN h.2
              clear hN
              iterate 2 (refine still_step rfl (fun K hK => ?_); go_simp; refine hK _ ?_; clear hK K)
              refine still_nil ?_
              clear c1 c2 c3 hX hne heq
              intro w' hw'
              have HW' := Hid.mk' (HGQ.out.trans hw')
              clear hw'
              go_wp2
              refine ⟨⟨i + 1, by omega, by go_num, fun k hk => ?_, HW'.out⟩, by simp [intOf]; omega⟩
              by_cases e : k < i
              · exact HNI.out k e
              · obtain rfl : k = i := by omega
                exact HPT.out
          · have hEb : ((ee : Int) == (fe : Int)) = false := by simp; omega
            have HPT : Hid (p i j = false) := by show _ = _; rw [HP.out, decide_eq_false]; exact fun h => hE h.1
            have hE' : ¬ ((ee : Int) = (fe : Int)) := by omega
            iterate 17 (refine still_step rfl (fun K hK => ?_); go_simp; refine hK _ ?_; clear hK K)
            refine still_step rfl (fun K hK => ?_)
            have hK' := fun (a : Act) h1 h2 => hK a (still_past2 (a := a) 17 false 37 [18, 19, 20, 21, 22, 23, 24, 25, 26, 27, 28, 29, 30, 31, 32, 33, 34] [35] [38, 39, 40, 41, 42, 43, 44, 45, 46, 47, 48, 49, 50, 51, 52, 53, 54] rfl rfl (by kernel_rfl) (by kernel_rfl) h1 h2)
            clear hK
            go_simp
            refine hK' _ rfl (fun K2 hK2 => ?_)
            clear hK' K
            simp only [undefs]
            go_simp
            refine hK2 _ ?_
            clear hK2 K2
            iterate 1 (refine still_step rfl (fun K hK => ?_); go_simp; refine hK _ ?_; clear hK K)
            refine still_nil ?_
            clear c1 c2 c3 hX hne hEb hE hE'
            intro w' hw'
            have HW' := Hid.mk' (HGQ.out.trans hw')
            clear hw'
            go_wp2
            refine ⟨⟨i + 1, by omega, by go_num, fun k hk => ?_, HW'.out⟩, by simp [intOf]; omega⟩
            by_cases e : k < i
            · exact HNI.out k e
            · obtain rfl : k = i := by omega
              exact HPT.out
        · have hii : ¬ (i : Int) < (j : Int) := by omega
          go_wp2
          refine ⟨⟨j + 1, by omega, by go_num, fun l hl k hk => ?_, HGQ.out⟩, by simp [intOf]; omega⟩
          by_cases e : l < j
          · exact HNO.out l e k hk
          · obtain rfl : l = j := by omega
            exact HNI.out k (by omega)
    · have hji : ¬ (j : Int) < (n : Int) := by omega
      go_wp2
      refine bodyPost_ret (results_tmp2 rfl _ _ _) rfl ⟨.inl ⟨rfl, fun l hl k hk => HNO.out l (by omega) k hk⟩, HGR.out⟩
end Go.Proofs.YthpgjbblbhjndaaDoor
/- The reference's log: Clash. -/
namespace Go.Proofs.YthpgjbblbhjndaaDoor
open Go.RowKit

theorem pc_len {w : World} {Fr G : Nat → Prop} {v : Value} {L : List PE} (h : PRow w Fr G v L) : ∀ e ∈ L, (pc e).length = 33 := fun e he => by
  have := (h.el e he).2.1
  simp [pc, u8s, this]
theorem PRow.at {w w' : World} {Fr G : Nat → Prop} {v : Value} {L : List PE} (h : PRow w Fr G v L) (k : Grow w w') : ∃ ao cap, v = .slice ao L.length cap ∧ ∀ i e, L[i]? = some e → ∃ g, ao = some ⟨g, 0, none⟩ ∧ Bs w' e.2 e.1.1 ∧ wf32 e.1.2 ∧ ∀ c u, (pc e)[c]? = some u → w'.cell? ((⟨g, i * 33, none⟩ : Addr).add c) = some u := by
  obtain ⟨ao, cap, rfl, hrow⟩ := h.row.shape
  refine ⟨ao, cap, rfl, fun i e hi => ?_⟩
  have hlt : i < L.length := (List.getElem?_eq_some_iff.1 hi).1
  obtain ⟨g, rfl, _, hg, hc⟩ := hrow (by omega)
  have he := h.el e (List.mem_of_getElem? hi)
  refine ⟨g, rfl, he.1.1.but k (fun _ _ _ h => h), he.2, fun c u hu => ?_⟩
  have e1 : (⟨g, i * 33, none⟩ : Addr).add c = ⟨g, i * 33 + c, none⟩ := by simp [Addr.add]
  rw [e1]
  exact (World.cell?_of_block (k.block g hg (fun h => h))).trans (hc _ _ (flat_at L (pc_len h) i e c u hi hu))
theorem rck_at {L : List PE} {i j : Nat} {e f : PE} (hi : L[i]? = some e) (hj : L[j]? = some f) : ck (L.map (·.1)) i j = decide (e.1.2 = f.1.2 ∧ e.1.1 ≠ f.1.1) := by
  simp [ck, List.getD, hi, hj]
set_option maxRecDepth 100000 in
set_option maxHeartbeats 8000000 in
theorem rclash_any {w : World} {gx : Nat} {vp vs vo : Value} {Fr G : Nat → Prop} {L : List PE} (hb : Blk w gx 41 [vp, vs, vo]) (hL : PRow w Fr G vp L) (hn : L.length ≤ 1000) :
    Calls Tryd.prog 12 #[.pointer (some ⟨gx, 0, none⟩)] w (RTo w (ck (L.map (·.1))) L.length) := by
  obtain ⟨ao, cap, hve, -⟩ := hL.at (But.refl _ w)
  have HAT : Hid (∀ w', Grow w w' → ∀ i e, L[i]? = some e → ∃ g, ao = some ⟨g, 0, none⟩ ∧ Bs w' e.2 e.1.1 ∧ wf32 e.1.2 ∧ ∀ c u, (pc e)[c]? = some u → w'.cell? ((⟨g, i * 33, none⟩ : Addr).add c) = some u) := fun w' hw => by
    obtain ⟨ao', cap', e1, h2⟩ := hL.at hw
    rw [hve] at e1
    cases e1
    exact h2
  subst hve
  have HB := Hid.mk' hb
  obtain ⟨n, hnl⟩ : ∃ n, n = L.length := ⟨_, rfl⟩
  rw [← hnl] at hb HB hn ⊢
  have HN := Hid.mk' hnl
  have HTK := Hid.mk' (fun i j e f => @rck_at L i j e f)
  obtain ⟨p, hp⟩ : ∃ p, p = ck (L.map (·.1)) := ⟨_, rfl⟩
  rw [← hp] at HTK ⊢
  clear hL hb hnl hp
  go_enter Tryd.func12, Tryd.ntmps12
  go_wp2
  go_loopw [4] (fun jv wr => ∃ j : Nat, j ≤ n ∧ jv = .int .i64 j ∧ (∀ l, l < j → ∀ k, k < l → p k l = false) ∧ Grow w wr) (fun jv _ => n - (intOf jv).toNat)
  case atStart => exact ⟨0, Nat.zero_le _, rfl, fun l hl => absurd hl (Nat.not_lt_zero _), But.refl _ _⟩
  case round =>
    obtain ⟨j, hjn, rfl, hno, hgr⟩ := hrel
    have HNO := Hid.mk' hno
    have HGR := Hid.mk' hgr
    have c1 : wr.cell? ⟨gx, 0, none⟩ = some (.slice ao n cap) := (HB.out.but HGR.out (fun h => h)).cell 0
    clear hno hgr
    by_cases hjlt : j < n
    · have hji : (j : Int) < (n : Int) := by omega
      go_wp2
      clear c1
      go_loopw [5] (fun iv wr => ∃ i : Nat, i ≤ j ∧ iv = .int .i64 i ∧ (∀ k, k < i → p k j = false) ∧ Grow w wr) (fun iv _ => j - (intOf iv).toNat)
      case atStart => exact ⟨0, Nat.zero_le _, rfl, fun k hk => absurd hk (Nat.not_lt_zero _), HGR.out⟩
      case round =>
        obtain ⟨i, hij, rfl, hnoi, hgq⟩ := hrel
        have HNI := Hid.mk' hnoi
        have HGQ := Hid.mk' hgq
        clear hnoi hgq HGR
        by_cases hilt : i < j
        · have hii : (i : Int) < (j : Int) := by omega
          have hin : (i : Int) < (n : Int) := by omega
          obtain ⟨e, he⟩ : ∃ e, L[i]? = some e := ⟨_, List.getElem?_eq_getElem (by have := HN.out; omega)⟩
          obtain ⟨f, hf⟩ : ∃ f, L[j]? = some f := ⟨_, List.getElem?_eq_getElem (by have := HN.out; omega)⟩
          have HP := Hid.mk' (HTK.out i j e f he hf)
          obtain ⟨g, hao, -, hte, -⟩ := HAT.out w (But.refl _ w) i e he
          obtain ⟨-, -, -, htf, -⟩ := HAT.out w (But.refl _ w) j f hf
          subst hao
          have HCE : Hid (∀ w', Grow w w' → Bs w' e.2 e.1.1 ∧ ∀ c u, (pc e)[c]? = some u → w'.cell? ((⟨g, i * 33, none⟩ : Addr).add c) = some u) := fun w' hw => by
            obtain ⟨g', eg, h1, -, h⟩ := HAT.out w' hw i e he
            cases eg; exact ⟨h1, h⟩
          have HCF : Hid (∀ w', Grow w w' → Bs w' f.2 f.1.1 ∧ ∀ c u, (pc f)[c]? = some u → w'.cell? ((⟨g, j * 33, none⟩ : Addr).add c) = some u) := fun w' hw => by
            obtain ⟨g', eg, h1, -, h⟩ := HAT.out w' hw j f hf
            cases eg; exact ⟨h1, h⟩
          have HC : Hid (∀ w', Grow w w' → w'.cell? ⟨gx, 0, none⟩ = some (.slice (some ⟨g, 0, none⟩) n cap) ∧ w'.cell? ⟨g, i * 33, none⟩ = some e.2 ∧ w'.cell? ⟨g, j * 33, none⟩ = some f.2) := fun w' hw =>
            ⟨(HB.out.but hw (fun h => h)).cell 0, by simpa [Addr.add] using (HCE.out w' hw).2 0 e.2 rfl, by simpa [Addr.add] using (HCF.out w' hw).2 0 f.2 rfl⟩
          have HCN : Hid (∀ w', Grow w w' → (∀ q u, (u8s e.1.2)[q]? = some u → w'.cell? ((⟨g, i * 33 + 1, none⟩ : Addr).add q) = some u) ∧ (∀ q u, (u8s f.1.2)[q]? = some u → w'.cell? ((⟨g, j * 33 + 1, none⟩ : Addr).add q) = some u)) := fun w' hw =>
            ⟨fun q u hq => by rw [shift1]; exact (HCE.out w' hw).2 (1 + q) u (by rw [Nat.add_comm]; exact hq),
             fun q u hq => by rw [shift1]; exact (HCF.out w' hw).2 (1 + q) u (by rw [Nat.add_comm]; exact hq)⟩
          have HSA : Hid (∀ w', Grow w w' → Calls Tryd.prog 14 #[e.2, f.2] w' fun r w'' => r = .returned (.bool (decide (e.1.1 = f.1.1))) ∧ Grow w' w'') := fun w' hw => by
            refine Calls.mono (same_any (HCE.out w' hw).1 (HCF.out w' hw).1) ?_
            rintro r w'' ⟨rfl, d, rfl⟩
            exact ⟨rfl, (But.refl _ _).drewN⟩
          have HEN := Hid.mk' hte.1
          have HFN := Hid.mk' htf.1
          clear hte htf HCE HCF he hf
          obtain ⟨⟨ex, en⟩, eu⟩ := e
          obtain ⟨⟨fx, fn⟩, fu⟩ := f
          simp only at HP HC HCN HEN HFN HSA
          obtain ⟨Ne, hNe⟩ : ∃ N, N = (u8s en).toArray := ⟨_, rfl⟩
          obtain ⟨Nf, hNf⟩ : ∃ N, N = (u8s fn).toArray := ⟨_, rfl⟩
          have heq : ∀ w', (Op.equalIn 10000 35 (.agg Ne) (.agg Nf)).run Tryd.prog w' = .ok (decide (en = fn)) w' := fun w' => by rw [hNe, hNf]; exact equalN ukt en fn HEN.out HFN.out w'
          have HNe := Hid.mk' hNe
          have HNf := Hid.mk' hNf
          clear hNe hNf
          go_upto_region 7 with fail
          refine region_chain [] [0, 1, 2, 3, 4, 5, 6, 7, 8, 9, 10, 11, 12, 13, 14, 15, 16, 17, 18, 19, 20, 21, 22, 23, 24, 25, 26, 27, 28, 29, 30, 31, 32, 33, 34, 35, 36] (Grow wr) (Grow wr) (by kernel_rfl) (by kernel_rfl) (fun _ _ h k => h.trans k) (fun _ h => h) ((But.refl _ wr).drew) ?_
          intro ι hne X hX
          have c1 : ∀ x, (X x).cell? ⟨gx, 0, none⟩ = some (.slice (some ⟨g, 0, none⟩) n cap) := fun x => (HC.out _ (HGQ.out.trans (hX x))).1
          have c2 : ∀ x, (X x).cell? ⟨g, i * 33, none⟩ = some eu := fun x => (HC.out _ (HGQ.out.trans (hX x))).2.1
          have c3 : ∀ x, (X x).cell? ⟨g, j * 33, none⟩ = some fu := fun x => (HC.out _ (HGQ.out.trans (hX x))).2.2
          iterate 7 (refine still_step rfl (fun K hK => ?_); go_simp; refine hK _ ?_; clear hK K)
          refine still_val rfl (.agg Ne) rfl (fun x => by rw [HNe.out]; exact run_load_arr ukt i32 (HCN.out _ (HGQ.out.trans (hX x))).1 HEN.out rfl rfl) ?_
          intro K hK; go_simp; refine hK _ ?_; clear hK K
          iterate 7 (refine still_step rfl (fun K hK => ?_); go_simp; refine hK _ ?_; clear hK K)
          refine still_val rfl (.agg Nf) rfl (fun x => by rw [HNf.out]; exact run_load_arr ukt i32 (HCN.out _ (HGQ.out.trans (hX x))).2 HFN.out rfl rfl) ?_
          intro K hK; go_simp; refine hK _ ?_; clear hK K
          by_cases hE : en = fn
          · rw [decide_eq_true hE] at heq
            iterate 18 (refine still_step rfl (fun K hK => ?_); go_simp; refine hK _ ?_; clear hK K)
            by_cases hN : ex = fx
            · have HPT : Hid (p i j = false) := by show _ = _; rw [HP.out, decide_eq_false]; exact fun h => h.2 hN
              have HSB : Hid (∀ w', Grow w w' → Calls Tryd.prog 14 #[eu, fu] w' fun r w'' => r = .returned (.bool true) ∧ Grow w' w'') := fun w' hw => by
                have := HSA.out w' hw
                rw [decide_eq_true hN] at this
                exact this
              clear hN hE
              refine still_call rfl (.bool true) 14 #[eu, fu] rfl (fun x => by kernel_rfl) (fun x => HSB.out _ (HGQ.out.trans (hX x))) ?_
              intro K hK; go_simp; refine hK _ ?_; clear hK K
              iterate 2 (refine still_step rfl (fun K hK => ?_); go_simp; refine hK _ ?_; clear hK K)
              refine still_nil ?_
              clear c1 c2 c3 hX hne heq
              intro w' hw'
              have HW' := Hid.mk' (HGQ.out.trans hw')
              clear hw'
              go_wp2
              refine ⟨⟨i + 1, by omega, by go_num, fun k hk => ?_, HW'.out⟩, by simp [intOf]; omega⟩
              by_cases e : k < i
              · exact HNI.out k e
              · obtain rfl : k = i := by omega
                exact HPT.out
            · have HPT : Hid (p i j = true) := by show _ = _; rw [HP.out, decide_eq_true]; exact ⟨hE, hN⟩
              have HSB : Hid (∀ w', Grow w w' → Calls Tryd.prog 14 #[eu, fu] w' fun r w'' => r = .returned (.bool false) ∧ Grow w' w'') := fun w' hw => by
                have := HSA.out w' hw
                rw [decide_eq_false hN] at this
                exact this
              clear hN hE
              refine still_call rfl (.bool false) 14 #[eu, fu] rfl (fun x => by kernel_rfl) (fun x => HSB.out _ (HGQ.out.trans (hX x))) ?_
              intro K hK; go_simp; refine hK _ ?_; clear hK K
              iterate 2 (refine still_step rfl (fun K hK => ?_); go_simp; refine hK _ ?_; clear hK K)
              refine still_nil ?_
              clear c1 c2 c3 hX hne heq
              intro w' hw'
              have HW' := Hid.mk' (HGQ.out.trans hw')
              clear hw'
              go_wp2
              exact bodyPost_ret (results_tmp2 rfl _ _ _) rfl ⟨.inr ⟨i, j, rfl, by omega, by omega, HPT.out, HNI.out, HNO.out⟩, HW'.out⟩
          · rw [decide_eq_false hE] at heq
            have HPT : Hid (p i j = false) := by show _ = _; rw [HP.out, decide_eq_false]; exact fun h => hE h.1
            clear hE
            iterate 1 (refine still_step rfl (fun K hK => ?_); go_simp; refine hK _ ?_; clear hK K)
            refine still_step rfl (fun K hK => ?_)
            have hK' := fun (a : Act) h1 h2 => hK a (still_past2 (a := a) 17 false 37 [18, 19, 20, 21, 22, 23, 24, 25, 26, 27, 28, 29, 30, 31, 32, 33, 34, 35] [36] [38, 39, 40, 41, 42, 43, 44, 45, 46, 47, 48, 49, 50, 51, 52, 53, 54, 55] rfl rfl (by kernel_rfl) (by kernel_rfl) h1 h2)
            clear hK
            go_simp
            refine hK' _ rfl (fun K2 hK2 => ?_)
            clear hK' K
            simp only [undefs]
            go_simp
            refine hK2 _ ?_
            clear hK2 K2
            iterate 1 (refine still_step rfl (fun K hK => ?_); go_simp; refine hK _ ?_; clear hK K)
            refine still_nil ?_
            clear c1 c2 c3 hX hne heq
            intro w' hw'
            have HW' := Hid.mk' (HGQ.out.trans hw')
            clear hw'
            go_wp2
            refine ⟨⟨i + 1, by omega, by go_num, fun k hk => ?_, HW'.out⟩, by simp [intOf]; omega⟩
            by_cases e : k < i
            · exact HNI.out k e
            · obtain rfl : k = i := by omega
              exact HPT.out
        · have hii : ¬ (i : Int) < (j : Int) := by omega
          go_wp2
          refine ⟨⟨j + 1, by omega, by go_num, fun l hl k hk => ?_, HGQ.out⟩, by simp [intOf]; omega⟩
          by_cases e : l < j
          · exact HNO.out l e k hk
          · obtain rfl : l = j := by omega
            exact HNI.out k (by omega)
    · have hji : ¬ (j : Int) < (n : Int) := by omega
      go_wp2
      refine bodyPost_ret (results_tmp2 rfl _ _ _) rfl ⟨.inl ⟨rfl, fun l hl k hk => HNO.out l (by omega) k hk⟩, HGR.out⟩
end Go.Proofs.YthpgjbblbhjndaaDoor
/- The reference's log: Forged. -/
namespace Go.Proofs.YthpgjbblbhjndaaDoor
open Go.RowKit

/-- What Forged tells. -/
def RFold (S O : List Tup) (e : Ending) : Prop :=
  (e = .returned (.int .i64 (-1)) ∧ ∀ j, j < O.length → O.getD j t0 ∈ S) ∨ ∃ j : Nat, e = .returned (.int .i64 (j : Int)) ∧ j < O.length ∧ O.getD j t0 ∉ S ∧ ∀ l, l < j → O.getD l t0 ∈ S
structure RFo (w : World) (S O : List Tup) (e : Ending) (w' : World) : Prop where
  told : RFold S O e
  grow : Grow w w'
/-- Was it among the first i? -/
def SawTo (L : List TE) (T : Tup) (i : Nat) (b : Bool) : Prop := b = true ↔ ∃ k e, k < i ∧ L[k]? = some e ∧ e.1 = T
theorem SawTo.next {L : List TE} {T : Tup} {i : Nat} {b : Bool} {e : TE} (h : SawTo L T i b) (he : L[i]? = some e) : SawTo L T (i + 1) (b || decide (e.1 = T)) := by
  unfold SawTo at *
  rw [Bool.or_eq_true, decide_eq_true_iff, h]
  constructor
  · rintro (⟨k, f, hk, hf, hT⟩ | hT)
    · exact ⟨k, f, by omega, hf, hT⟩
    · exact ⟨i, e, by omega, he, hT⟩
  · rintro ⟨k, f, hk, hf, hT⟩
    by_cases e1 : k < i
    · exact .inl ⟨k, f, e1, hf, hT⟩
    · obtain rfl : k = i := by omega
      rw [he] at hf
      cases hf
      exact .inr hT
theorem SawTo.all {L : List TE} {T : Tup} {b : Bool} (h : SawTo L T L.length b) : b = true ↔ T ∈ L.map (·.1) := by
  unfold SawTo at h
  rw [h, List.mem_map]
  constructor
  · rintro ⟨k, e, _, he, hT⟩
    exact ⟨e, List.mem_of_getElem? he, hT⟩
  · rintro ⟨e, he, hT⟩
    obtain ⟨k, hk⟩ := List.mem_iff_getElem?.1 he
    exact ⟨k, e, (List.getElem?_eq_some_iff.1 hk).1, hk, hT⟩
set_option maxRecDepth 100000 in
set_option maxHeartbeats 8000000 in
theorem rforged_any {w : World} {gx : Nat} {vp vs vo : Value} {Fr G Fr' G' : Nat → Prop} {L M : List TE} (hb : Blk w gx 41 [vp, vs, vo]) (hL : TRow w Fr G vs L) (hM : TRow w Fr' G' vo M) (hn : L.length ≤ 1000) (hm : M.length ≤ 1000) :
    Calls Tryd.prog 15 #[.pointer (some ⟨gx, 0, none⟩)] w (RFo w (L.map (·.1)) (M.map (·.1))) := by
  obtain ⟨ao, cap, hve, -⟩ := hL.at (But.refl _ w)
  obtain ⟨bo, cbp, hvo, -⟩ := hM.at (But.refl _ w)
  have HAT : Hid (∀ w', Grow w w' → ∀ i e, L[i]? = some e → ∃ g, ao = some ⟨g, 0, none⟩ ∧ Tv w' G e.1 e.2.1 e.2.2 ∧ ∀ c u, (tc e)[c]? = some u → w'.cell? ((⟨g, i * 15, none⟩ : Addr).add c) = some u) := fun w' hw => by
    obtain ⟨ao', cap', e1, h2⟩ := hL.at hw
    rw [hve] at e1
    cases e1
    exact h2
  have HBT : Hid (∀ w', Grow w w' → ∀ i e, M[i]? = some e → ∃ g, bo = some ⟨g, 0, none⟩ ∧ Tv w' G' e.1 e.2.1 e.2.2 ∧ ∀ c u, (tc e)[c]? = some u → w'.cell? ((⟨g, i * 15, none⟩ : Addr).add c) = some u) := fun w' hw => by
    obtain ⟨ao', cap', e1, h2⟩ := hM.at hw
    rw [hvo] at e1
    cases e1
    exact h2
  subst hve hvo
  have HB := Hid.mk' hb
  obtain ⟨n, hnl⟩ : ∃ n, n = L.length := ⟨_, rfl⟩
  obtain ⟨m, hml⟩ : ∃ m, m = M.length := ⟨_, rfl⟩
  rw [← hnl] at hb HB hn
  rw [← hml] at hb HB hm
  have HN := Hid.mk' hnl
  have HM := Hid.mk' hml
  have HOM : Hid (∀ j f, M[j]? = some f → (M.map (·.1)).getD j t0 = f.1) := fun j f hf => by simp [List.getD, hf]
  have HSL : Hid (∀ T b, SawTo L T n b → (b = true ↔ T ∈ L.map (·.1))) := fun T b h => by rw [hnl] at h; exact h.all
  have HOL : Hid ((M.map (·.1)).length = m) := by show _ = _; rw [hml]; simp
  clear hL hM hb hnl hml
  generalize L.map (·.1) = S at *
  generalize M.map (·.1) = O at *
  go_enter Tryd.func15, Tryd.ntmps15
  go_wp2
  go_loopw [3] (fun jv wr => ∃ j : Nat, j ≤ m ∧ jv = .int .i64 j ∧ (∀ l, l < j → O.getD l t0 ∈ S) ∧ Grow w wr) (fun jv _ => m - (intOf jv).toNat)
  case atStart => exact ⟨0, Nat.zero_le _, rfl, fun l hl => absurd hl (Nat.not_lt_zero _), But.refl _ _⟩
  case round =>
    obtain ⟨j, hjm, rfl, hno, hgr⟩ := hrel
    have HNO := Hid.mk' hno
    have HGR := Hid.mk' hgr
    have c2 : wr.cell? ⟨gx, 2, none⟩ = some (.slice bo m cbp) := (HB.out.but HGR.out (fun h => h)).cell 2
    clear hno hgr
    by_cases hjlt : j < m
    · have hji : (j : Int) < (m : Int) := by omega
      obtain ⟨f, hf⟩ : ∃ f, M[j]? = some f := ⟨_, List.getElem?_eq_getElem (by have := HM.out; omega)⟩
      have HF := Hid.mk' hf
      clear hf
      go_wp2
      clear c2
      go_loopw [4, 5] (fun bv iv wr => ∃ (i : Nat) (b : Bool), i ≤ n ∧ iv = .int .i64 i ∧ bv = .bool b ∧ SawTo L f.1 i b ∧ Grow w wr) (fun _ iv _ => n - (intOf iv).toNat)
      case atStart => exact ⟨0, false, Nat.zero_le _, rfl, rfl, ⟨nofun, fun ⟨k, e, hk, _⟩ => absurd hk (Nat.not_lt_zero _)⟩, HGR.out⟩
      case round =>
        obtain ⟨i, b, hin, rfl, rfl, hsaw, hgq⟩ := hrel
        have HSW := Hid.mk' hsaw
        have HGQ := Hid.mk' hgq
        have c1 : wr.cell? ⟨gx, 1, none⟩ = some (.slice ao n cap) := (HB.out.but HGQ.out (fun h => h)).cell 1
        clear hsaw hgq HGR
        by_cases hilt : i < n
        · have hii : (i : Int) < (n : Int) := by omega
          obtain ⟨e, he⟩ : ∃ e, L[i]? = some e := ⟨_, List.getElem?_eq_getElem (by have := HN.out; omega)⟩
          have HNX := Hid.mk' (HSW.out.next he)
          obtain ⟨g, hao, -, -⟩ := HAT.out w (But.refl _ w) i e he
          obtain ⟨h, hbo, -, -⟩ := HBT.out w (But.refl _ w) j f HF.out
          subst hao hbo
          have HCE : Hid (∀ w', Grow w w' → Tv w' G e.1 e.2.1 e.2.2 ∧ ∀ c u, (tc e)[c]? = some u → w'.cell? ((⟨g, i * 15, none⟩ : Addr).add c) = some u) := fun w' hw => by
            obtain ⟨g', eg, h⟩ := HAT.out w' hw i e he
            cases eg; exact h
          have HCF : Hid (∀ w', Grow w w' → Tv w' G' f.1 f.2.1 f.2.2 ∧ ∀ c u, (tc f)[c]? = some u → w'.cell? ((⟨h, j * 15, none⟩ : Addr).add c) = some u) := fun w' hw => by
            obtain ⟨g', eg, h⟩ := HBT.out w' hw j f HF.out
            cases eg; exact h
          obtain ⟨B1, hB1⟩ : ∃ B, B = (tc e).toArray := ⟨_, rfl⟩
          obtain ⟨B2, hB2⟩ : ∃ B, B = (tc f).toArray := ⟨_, rfl⟩
          have HSA : Hid (∀ w', Grow w w' → Calls Tryd.prog 17 #[.agg B1, .agg B2] w' fun r w'' => r = .returned (.bool (decide (e.1 = f.1))) ∧ Grow w' w'') := fun w' hw => by
            rw [hB1, hB2]
            exact rsameT_any (HCE.out w' hw).1 (HCF.out w' hw).1
          have HB1 := Hid.mk' hB1
          have HB2 := Hid.mk' hB2
          clear he hB1 hB2
          cases b with
          | false =>
            rw [Bool.false_or] at HNX
            go_upto_region 8 with fail
            clear c1
            refine region_chain [] [0, 1, 2, 3, 4, 5, 6, 7, 8, 9, 10, 11, 12, 13, 14, 15, 16, 17, 18] (Grow wr) (Grow wr) (by kernel_rfl) (by kernel_rfl) (fun _ _ h k => h.trans k) (fun _ h => h) ((But.refl _ wr).drew) ?_
            intro ι hne X hX
            have c1 : ∀ x, (X x).cell? ⟨gx, 1, none⟩ = some (.slice (some ⟨g, 0, none⟩) n cap) := fun x => (HB.out.but (HGQ.out.trans (hX x)) (fun h => h)).cell 1
            have c2 : ∀ x, (X x).cell? ⟨gx, 2, none⟩ = some (.slice (some ⟨h, 0, none⟩) m cbp) := fun x => (HB.out.but (HGQ.out.trans (hX x)) (fun h => h)).cell 2
            iterate 8 (refine still_step rfl (fun K hK => ?_); go_simp; refine hK _ ?_; clear hK K)
            refine still_val rfl (.agg B1) rfl (fun x => by rw [HB1.out]; exact run_load_tup (HCE.out _ (HGQ.out.trans (hX x))).2 (tc_len (HCE.out _ (HGQ.out.trans (hX x))).1) rfl rfl) ?_
            intro K hK; go_simp; refine hK _ ?_; clear hK K
            iterate 6 (refine still_step rfl (fun K hK => ?_); go_simp; refine hK _ ?_; clear hK K)
            refine still_val rfl (.agg B2) rfl (fun x => by rw [HB2.out]; exact run_load_tup (HCF.out _ (HGQ.out.trans (hX x))).2 (tc_len (HCF.out _ (HGQ.out.trans (hX x))).1) rfl rfl) ?_
            intro K hK; go_simp; refine hK _ ?_; clear hK K
            generalize decide (e.1 = f.1) = q at *
            refine still_call rfl (.bool q) 17 #[.agg B1, .agg B2] rfl (fun x => by kernel_rfl) (fun x => HSA.out _ (HGQ.out.trans (hX x))) ?_
            intro K hK; go_simp; refine hK _ ?_; clear hK K
            iterate 2 (refine still_step rfl (fun K hK => ?_); go_simp; refine hK _ ?_; clear hK K)
            refine still_nil ?_
            clear c1 c2 hX hne
            intro w' hw'
            have HW' := Hid.mk' (HGQ.out.trans hw')
            clear hw'
            go_wp2
            exact ⟨⟨i + 1, q, by omega, by go_num, rfl, HNX.out, HW'.out⟩, by simp [intOf]; omega⟩
          | true =>
            rw [Bool.true_or] at HNX
            go_upto_region 8 with fail
            clear c1
            refine region_chain [] [0, 1, 2, 3, 4, 5, 6, 7, 8, 9, 10, 11, 12, 13, 14, 15, 16, 17, 18] (Grow wr) (Grow wr) (by kernel_rfl) (by kernel_rfl) (fun _ _ h k => h.trans k) (fun _ h => h) ((But.refl _ wr).drew) ?_
            intro ι hne X hX
            iterate 1 (refine still_step rfl (fun K hK => ?_); go_simp; refine hK _ ?_; clear hK K)
            refine still_step rfl (fun K hK => ?_)
            have hK' := fun (a : Act) h1 h2 => hK a (still_past2 (a := a) 1 true 25 [2, 3, 4, 5, 6, 7, 8, 9, 10, 11, 12, 13, 14, 15, 16] [17, 18] [26, 27, 28, 29, 30, 31, 32, 33, 34, 35, 36, 37, 38, 39, 40] rfl rfl (by kernel_rfl) (by kernel_rfl) h1 h2)
            clear hK
            go_simp
            refine hK' _ rfl (fun K2 hK2 => ?_)
            clear hK' K
            simp only [undefs]
            go_simp
            refine hK2 _ ?_
            clear hK2 K2
            iterate 2 (refine still_step rfl (fun K hK => ?_); go_simp; refine hK _ ?_; clear hK K)
            refine still_nil ?_
            clear hX hne
            intro w' hw'
            have HW' := Hid.mk' (HGQ.out.trans hw')
            clear hw'
            go_wp2
            exact ⟨⟨i + 1, true, by omega, by go_num, rfl, HNX.out, HW'.out⟩, by simp [intOf]; omega⟩
        · have hii : ¬ (i : Int) < (n : Int) := by omega
          obtain rfl : i = n := by omega
          have HSE := Hid.mk' (HSL.out _ _ HSW.out)
          cases b with
          | true =>
            go_wp2
            refine ⟨⟨j + 1, by omega, by go_num, fun l hl => ?_, HGQ.out⟩, by simp [intOf]; omega⟩
            by_cases e : l < j
            · exact HNO.out l e
            · obtain rfl : l = j := by omega
              rw [HOM.out l f HF.out]
              exact HSE.out.1 rfl
          | false =>
            go_wp2
            refine bodyPost_ret (results_tmp rfl _ _ _) rfl ⟨.inr ⟨j, rfl, by rw [HOL.out]; exact hjlt, ?_, HNO.out⟩, HGQ.out⟩
            rw [HOM.out j f HF.out]
            exact fun h => absurd (HSE.out.2 h) (by decide)
    · have hji : ¬ (j : Int) < (m : Int) := by omega
      go_wp2
      exact bodyPost_ret (results_tmp rfl _ _ _) rfl ⟨.inl ⟨rfl, fun l hl => HNO.out l (by rw [HOL.out] at hl; omega)⟩, HGR.out⟩
end Go.Proofs.YthpgjbblbhjndaaDoor
/- The reference's Own. -/
namespace Go.Proofs.YthpgjbblbhjndaaDoor
open Go.RowKit

theorem exec_build {w : World} {o : Oper} {ρ : Operand → Value} (t : TypeId) (parts : List (Nat × Operand)) (ho : o.op = .build t parts.toArray) (ps : List (Nat × Value)) (hp : (parts.map fun x => (x.1, ρ x.2)) = ps) (v : Value) (hr : (Instr.build t ps.toArray).run Tryd.prog w = .ok v w) : (execOp ρ o).run Tryd.prog w = .ok (.value v) w := by
  unfold execOp
  simp only [ho, List.map_toArray]
  rw [hp]
  simp only [Sem.run_bind, hr, Result.andThen_ok, Sem.run_pure]
theorem built_tup (e a b c d f g i j k l m n : Int) (aa az : Option Addr) (na ca nz cz : Nat) : Tryd.prog.built 46 [(0, .int .u32 e), (1, .agg #[.int .u8 a, .int .u8 b, .int .u8 c, .int .u8 d, .int .u8 f, .int .u8 g, .int .u8 i, .int .u8 j, .int .u8 k, .int .u8 l, .int .u8 m, .int .u8 n]), (2, .slice aa na ca), (3, .slice az nz cz)] = some #[.int .u32 e, .int .u8 a, .int .u8 b, .int .u8 c, .int .u8 d, .int .u8 f, .int .u8 g, .int .u8 i, .int .u8 j, .int .u8 k, .int .u8 l, .int .u8 m, .int .u8 n, .slice aa na ca, .slice az nz cz] := by kernel_rfl
theorem build_tup {T : Tup} (h : T.2.1.length = 12) (aa az : Option Addr) (na ca nz cz : Nat) (w : World) : (Instr.build 46 #[(0, .int .u32 (T.1 : Int)), (1, .agg (u8s T.2.1).toArray), (2, .slice aa na ca), (3, .slice az nz cz)]).run Tryd.prog w = .ok (.agg (tcells T (.slice aa na ca) (.slice az nz cz)).toArray) w := by
  obtain ⟨e, N, x, y⟩ := T
  have h : N.length = 12 := h
  obtain ⟨a, b, c, d, f, g, i, j, k, l, m, n, rfl⟩ := list12 h
  exact run_build w _ _ _ (built_tup e a b c d f g i j k l m n aa az na ca nz cz)
set_option maxRecDepth 100000 in
set_option maxHeartbeats 8000000 in
theorem rown_any {w : World} {F : Nat → Prop} {T : Tup} {va vs : Value} (h : Tv w F T va vs) (h1 : T.2.2.1.length ≤ 140737488355328) (h2 : T.2.2.2.length ≤ 140737488355328) :
    Calls Tryd.prog 30 #[.agg (tcells T va vs).toArray] w fun e w' => ∃ va' vs', e = .returned (.agg (tcells T va' vs').toArray) ∧ TNew w' w.heap.size T va' vs' ∧ Grow w w' := by
  obtain ⟨A, hA⟩ : ∃ A, A = (tcells T va vs).toArray := ⟨_, rfl⟩
  rw [← hA]
  obtain ⟨Z, hZ⟩ : ∃ Z, Z = zeroT := ⟨_, rfl⟩
  have hz := zT
  rw [← hZ] at hz
  obtain ⟨g, hg⟩ : ∃ g, g = w.heap.size := ⟨_, rfl⟩
  obtain ⟨W0, hW0⟩ : ∃ W0, W0 = ((w.alloc (.cells A 46)).alloc (.cells Z.toArray 46)) := ⟨_, rfl⟩
  have HT : Hid (Grow w W0) := by show But _ _ _; rw [hW0]; exact ((But.refl _ w).alloc _).alloc _
  have HA : Hid (Blk W0 g 46 (tcells T va vs)) := by show Blk _ _ _ _; rw [hW0, hA]; exact (Blk.new hg.symm).but ((But.refl (fun _ => False) _).alloc _) (fun h => h)
  have HB : Hid (Blk W0 (g + 1) 46 Z) := by show Blk _ _ _ _; rw [hW0]; exact Blk.new (by simp [hg])
  have HS0 : Hid (W0.heap.size = g + 2) := by show _ = _; rw [hW0, hg]; simp
  have HZL : Hid (Z.length = 15) := by show _ = _; rw [hZ]; rfl
  have HTV : Hid (∀ w', Grow w w' → Bs w' va T.2.2.1 ∧ Bs w' vs T.2.2.2) := fun w' hw => ⟨(h.then hw).aad.1, (h.then hw).sea.1⟩
  have HL := Hid.mk' h.nl
  have HE := Hid.mk' h.ep
  have HNT := Hid.mk' h.nt
  have HBT := Hid.mk' (build_tup h.nl)
  have H1 := Hid.mk' h1
  have H2 := Hid.mk' h2
  have HG := Hid.mk' hg
  have HW := Hid.mk' hW0
  obtain ⟨N, hN⟩ : ∃ N, N = (u8s T.2.1).toArray := ⟨_, rfl⟩
  rw [← hN] at HBT
  have HN := Hid.mk' hN
  clear hA hg hW0 h hZ h1 h2 hN
  go_enter Tryd.func30, Tryd.ntmps30
  go_upto_region 1 with fail
  rw [← HW.out, ← HG.out]
  refine region_chain [([0, 1, 2, 3, 4, 5, 7, 8], 6), ([], 9), ([10], 11)] [] (But (fun b => b = g + 1) W0) (Grow W0) (by kernel_rfl) (by kernel_rfl) (fun _ _ h k => h.trans k) (fun _ h => h.mono (fun _ _ h => h.elim)) ((But.refl _ W0).drew) ?_
  intro ι hne X hX
  have c0 : ∀ x, (X x).cell? ⟨g, 0, none⟩ = some (.int .u32 (T.1 : Int)) := fun x => ((HA.out.but (hX x) (by omega)).cell 0).trans (tcells_0 _ _ _)
  have c13 : ∀ x, (X x).cell? ⟨g, 13, none⟩ = some va := fun x => ((HA.out.but (hX x) (by omega)).cell 13).trans (tcells_13 HL.out _ _)
  have c14 : ∀ x, (X x).cell? ⟨g, 14, none⟩ = some vs := fun x => ((HA.out.but (hX x) (by omega)).cell 14).trans (tcells_14 HL.out _ _)
  iterate 3 (refine still_step rfl (fun K hK => ?_); go_simp; refine hK _ ?_; clear hK K)
  refine still_val rfl (.agg N) rfl (fun x => by
    rw [HN.out]
    refine run_load_arr ukt12 i12g (fun q u hq => ?_) HL.out rfl rfl
    have := (HA.out.but (hX x) (by omega)).cells0 (1 + q) u (tcells_non HL.out _ _ q u hq)
    rw [← shift1] at this
    exact this) ?_
  intro K hK; go_simp; refine hK _ ?_; clear hK K
  iterate 4 (refine still_step rfl (fun K hK => ?_); go_simp; refine hK _ ?_; clear hK K)
  refine still_nil ?_
  clear c0 c13 c14 hX hne
  refine turn_call rfl rfl (fun v w' => Grow W0 w' ∧ Ow w' W0.heap.size v T.2.2.1) (fun _ => But (fun b => b = g + 1) W0) ?_ (fun _ _ h => h.1.mono (fun _ _ h => h.elim)) (.inr (fun _ _ h => h)) 29 #[va] (fun _ => by kernel_rfl) ?_ ?_
  · rintro v w1 w2 ⟨h1, h2⟩ k
    exact ⟨h1.trans k, h2.but k (fun _ _ _ h => h)⟩
  · intro w1 hw1
    refine (copy_any (HTV.out w1 (HT.out.trans hw1)).1 H1.out).mono ?_
    rintro e w2 ⟨v', rfl, h1, h2⟩
    exact ⟨_, rfl, hw1.trans (But.of h2), h1.mono hw1.size⟩
  · rintro v ⟨wq, -, hov⟩ Y hY
    obtain ⟨aa, na, ca, e1⟩ := hov.bs.sl
    subst e1
    clear hov wq
    go_simp
    refine hY _ ?_
    clear hY Y
    intro ι hne X hX
    refine still_nil ?_
    clear hX hne
    refine turn_call rfl rfl (fun v w' => Grow W0 w' ∧ Ow w' W0.heap.size (.slice aa na ca) T.2.2.1 ∧ Ow w' W0.heap.size v T.2.2.2 ∧ ∀ k, (Value.slice aa na ca).ownBlock = some k → v.ownBlock = some k → False) (fun _ => But (fun b => b = g + 1) W0) ?_ (fun _ _ h => h.1.mono (fun _ _ h => h.elim)) (.inr (fun _ _ h => h)) 29 #[vs] (fun _ => by kernel_rfl) ?_ ?_
    · rintro v w1 w2 ⟨h1, h2, h3, h4⟩ k
      exact ⟨h1.trans k, h2.but k (fun _ _ _ h => h), h3.but k (fun _ _ _ h => h), h4⟩
    · rintro w1 ⟨hw1, ho⟩
      refine (copy_any (HTV.out w1 (HT.out.trans hw1)).2 H2.out).mono ?_
      rintro e w2 ⟨v', rfl, h1, h2⟩
      refine ⟨_, rfl, hw1.trans (But.of h2), ho.but (But.of (R := fun _ => False) h2) (fun _ _ _ h => h), h1.mono hw1.size, fun k hk hk2 => ?_⟩
      have e1 := (ho.ge k hk).2
      have e2 := (h1.ge k hk2).1
      omega
    · rintro v ⟨wq, -, hov1, hov, -⟩ Y hY
      have HO1 : Hid ((Value.slice aa na ca).oneCell' = true) := hov1.bs.one
      obtain ⟨az, nz, cz, e1⟩ := hov.bs.sl
      subst e1
      clear hov hov1 wq
      go_simp
      refine hY _ ?_
      clear hY Y
      intro ι hne X hX
      have HONE : Hid (∀ u ∈ tcells T (.slice aa na ca) (.slice az nz cz), u.oneCell' = true) := tcells_one rfl rfl
      obtain ⟨C, hC⟩ : ∃ C, C = tcells T (.slice aa na ca) (.slice az nz cz) := ⟨_, rfl⟩
      have HBB := Hid.mk' (HBT.out aa az na ca nz cz)
      rw [← hC] at HBB HONE
      have HCL : Hid (C.length = 15) := by show _ = _; rw [hC]; exact tcells_len HL.out _ _
      have HC := Hid.mk' hC
      clear hC
      refine still_val rfl (.agg C.toArray) rfl (fun x => exec_build _ [_, _, _, _] rfl [(0, .int .u32 (T.1 : Int)), (1, .agg N), (2, .slice aa na ca), (3, .slice az nz cz)] rfl _ (HBB.out _)) ?_
      intro K hK; go_simp; refine hK _ ?_; clear hK K
      refine still_nil ?_
      clear hX hne
      refine turn_run rfl rfl (fun _ w' => But (fun b => b = g + 1) W0 w' ∧ (Ow w' W0.heap.size (.slice aa na ca) T.2.2.1 ∧ Ow w' W0.heap.size (.slice az nz cz) T.2.2.2 ∧ ∀ k, (Value.slice aa na ca).ownBlock = some k → (Value.slice az nz cz).ownBlock = some k → False) ∧ Blk w' (g + 1) 46 C) (fun _ => But (fun b => b = g + 1) W0) ?_ (fun _ _ h => h.1) (.inr (fun _ _ h => h)) ?_ ?_
      · rintro v w1 w2 ⟨h1, ⟨h2, h3, h4⟩, h5⟩ k
        exact ⟨h1.trans (k.mono (fun _ _ h => h.elim)), ⟨h2.but k (fun _ _ _ h => h), h3.but k (fun _ _ _ h => h), h4⟩, h5.but k (fun h => h)⟩
      · rintro w1 ⟨h1, h2, h3, h4⟩
        refine turn_store15 (cs := C) rfl rfl rfl HCL.out HONE.out (HB.out.but h1 (fun h => h)) HZL.out ?_
        intro w2 hb hbut
        have hs0 := HS0.out
        exact ⟨(h1.mono (fun _ _ h => h.elim)).trans hbut, ⟨h2.but hbut (fun j hj _ e => by have := (h2.ge j hj).1; omega), h3.but hbut (fun j hj _ e => by have := (h3.ge j hj).1; omega), h4⟩, hb⟩
      · rintro v5 - Y hY
        go_simp
        refine hY _ ?_
        clear hY Y
        intro ι hne X hX
        refine still_nil ?_
        clear hX hne
        rintro w5 ⟨h1, ⟨h2, h3, h4⟩, h5⟩
        have H5 := Hid.mk' h5
        have HX1 := Hid.mk' h1
        have HX2 := Hid.mk' h2
        have HX3 := Hid.mk' h3
        have HX4 := Hid.mk' h4
        clear h1 h2 h3 h4 h5
        go_wp2
        refine bodyPost_ret (results_cell_row rfl _ _ (g + 1) _ _ _ _ rfl H5.out Tryd.underlying46 rfl (by rw [iT]; simp [HCL.out])) rfl ⟨_, _, by rw [HC.out], ?_, ?_⟩
        · have hz0 := HT.out.size
          exact ⟨HE.out, HL.out, HNT.out, HX2.out.mono hz0, HX3.out.mono hz0, HX4.out⟩
        · exact HT.out.then HX1.out (fun i hi e => by have := HG.out; omega)
end Go.Proofs.YthpgjbblbhjndaaDoor
/- The program's log and the reference's, side by side. -/
namespace Go.Proofs.YthpgjbblbhjndaaDoor
open Go.RowKit

/-- The reference's log at gx; what is older than it lies below base. -/
structure Rl (base : Nat) (w : World) (ro : Owner) (gx : Nat) (vp vs vo : Value) (LP : List PE) (LS LO : List TE) : Prop where
  top : Top w ro
  tag : ro gx = .log
  blk : Blk w gx 41 [vp, vs, vo]
  prs : PRow w (Is ro .cla) (· < base) vp LP
  sea : TRow w (Is ro .blo) (· < base) vs LS
  ope : TRow w (Is ro .str) (· < base) vo LO
  new : ∀ b, ro b ≠ .none → base ≤ b
section
variable {base : Nat} {w w' : World} {ro ro' : Owner} {gx : Nat} {vp vs vo v' : Value} {LP : List PE} {LS LO : List TE}
theorem Rl.but {R : Nat → Prop} (h : Rl base w ro gx vp vs vo LP LS LO) (k : But R w w') (hr : ∀ b, ro b ≠ .none → ¬ R b) (ho : ∀ b, b < base → ¬ R b) : Rl base w' ro gx vp vs vo LP LS LO := by
  have hx : ∀ {t}, t ≠ .none → ∀ b, Is ro t b → ¬ R b := fun h1 b hb => hr b (by rw [show ro b = _ from hb]; exact h1)
  exact ⟨h.top.grow k.size, h.tag, h.blk.but k (hx (t := .log) (by decide) gx h.tag), h.prs.but k (hx (by decide)) ho (fun _ h => h) (fun _ h => h), h.sea.but k (hx (by decide)) ho (fun _ h => h) (fun _ h => h), h.ope.but k (hx (by decide)) ho (fun _ h => h) (fun _ h => h), h.new⟩
/-- The tags behind an append to the row v. -/
theorem tag_add {v : Value} {t : Tag} (h : Top w ro) (hn : ∀ b, ro b ≠ .none → base ≤ b) (hb : base ≤ w.heap.size) (hs : w.heap.size ≤ w'.heap.size) (hv : ∀ k, v.ownBlock = some k → ro k = t) (ha : ∀ k, v'.ownBlock = some k → v.ownBlock = some k ∨ w.heap.size ≤ k) (hl : ∀ k, v'.ownBlock = some k → k < w'.heap.size) :
    Ext ro (tagV ro v' t) ∧ Fresh w ro (tagV ro v' t) ∧ Top w' (tagV ro v' t) ∧ ∀ b, tagV ro v' t b ≠ .none → base ≤ b := by
  have hf : Fresh w ro (tagV ro v' t) := (Fresh.refl w ro).tagV (fun k hk => (ha k hk).elim (fun e => .inr (hv k e)) .inl)
  refine ⟨Ext.tagV (fun k hk => (ha k hk).elim (fun e => .inr (hv k e)) (fun e => .inl (h k e))), hf, (h.grow hs).tagV hl, fun b hq => ?_⟩
  by_cases e : tagV ro v' t b = ro b
  · exact hn b (by rw [← e]; exact hq)
  · exact Nat.le_trans hb (hf b e)
theorem Rl.addP (h : Rl base w ro gx vp vs vo LP LS LO) (hb : base ≤ w.heap.size) {e : PE} (k : But (fun b => vp.ownBlock = some b ∨ b = gx) w w') (hrow : w'.ownsRow 0 37 33 v' (LP.length + 1) (LP.flatMap pc ++ pc e)) (ha : ∀ k, v'.ownBlock = some k → vp.ownBlock = some k ∨ w.heap.size ≤ k) (hl : ∀ k, v'.ownBlock = some k → k < w'.heap.size) (hblk : Blk w' gx 41 [v', vs, vo]) (he : Bf w' (· < base) e.2 e.1.1) (hw : wf32 e.1.2) :
    ∃ ro', Fresh w ro ro' ∧ Rl base w' ro' gx v' vs vo (LP ++ [e]) LS LO := by
  obtain ⟨h1, h2, h3, h4⟩ := tag_add (t := .cla) h.top h.new hb k.size (fun k hk => h.prs.row.inF k hk) ha hl
  have hR : ∀ {t : Tag}, t ≠ .none → t ≠ .cla → t ≠ .log → ∀ b, Is ro t b → ¬ (vp.ownBlock = some b ∨ b = gx) := fun q1 q2 q3 b hb hh => by
    rcases hh with hh | hh
    · exact q2 ((show ro b = _ from hb).symm.trans (h.prs.row.inF b hh))
    · exact q3 ((show ro b = _ from hb).symm.trans (by rw [hh]; exact h.tag))
  have hO : ∀ b, b < base → ¬ (vp.ownBlock = some b ∨ b = gx) := fun b hb hh => by
    rcases hh with hh | hh
    · have := h.new b (by rw [show ro b = _ from h.prs.row.inF b hh]; decide); omega
    · have := h.new b (by rw [hh, h.tag]; decide); omega
  refine ⟨_, h2, h3, h1.is (by decide) gx h.tag, hblk, ⟨⟨?_, fun k hk => tagV_own hk⟩, fun f hf => ?_⟩, h.sea.but k (hR (by decide) (by decide) (by decide)) hO (h1.is (by decide)) (fun _ h => h), h.ope.but k (hR (by decide) (by decide) (by decide)) hO (h1.is (by decide)) (fun _ h => h), h4⟩
  · rw [List.length_append, List.length_singleton, List.flatMap_append, show ([e] : List PE).flatMap pc = pc e by simp]
    exact hrow
  · rcases List.mem_append.1 hf with hf | hf
    · exact ⟨(h.prs.el f hf).1.but k hO, (h.prs.el f hf).2⟩
    · rw [show f = e by simpa using hf]; exact ⟨he, hw⟩
theorem Rl.addS (h : Rl base w ro gx vp vs vo LP LS LO) (hb : base ≤ w.heap.size) {e : TE} (k : But (fun b => vs.ownBlock = some b ∨ b = gx) w w') (hrow : w'.ownsRow 0 46 15 v' (LS.length + 1) (LS.flatMap tc ++ tc e)) (ha : ∀ k, v'.ownBlock = some k → vs.ownBlock = some k ∨ w.heap.size ≤ k) (hl : ∀ k, v'.ownBlock = some k → k < w'.heap.size) (hblk : Blk w' gx 41 [vp, v', vo]) (he : Tv w' (· < base) e.1 e.2.1 e.2.2) :
    ∃ ro', Fresh w ro ro' ∧ Rl base w' ro' gx vp v' vo LP (LS ++ [e]) LO := by
  obtain ⟨h1, h2, h3, h4⟩ := tag_add (t := .blo) h.top h.new hb k.size (fun k hk => h.sea.row.inF k hk) ha hl
  have hR : ∀ {t : Tag}, t ≠ .none → t ≠ .blo → t ≠ .log → ∀ b, Is ro t b → ¬ (vs.ownBlock = some b ∨ b = gx) := fun q1 q2 q3 b hb hh => by
    rcases hh with hh | hh
    · exact q2 ((show ro b = _ from hb).symm.trans (h.sea.row.inF b hh))
    · exact q3 ((show ro b = _ from hb).symm.trans (by rw [hh]; exact h.tag))
  have hO : ∀ b, b < base → ¬ (vs.ownBlock = some b ∨ b = gx) := fun b hb hh => by
    rcases hh with hh | hh
    · have := h.new b (by rw [show ro b = _ from h.sea.row.inF b hh]; decide); omega
    · have := h.new b (by rw [hh, h.tag]; decide); omega
  refine ⟨_, h2, h3, h1.is (by decide) gx h.tag, hblk, h.prs.but k (hR (by decide) (by decide) (by decide)) hO (h1.is (by decide)) (fun _ h => h), ⟨⟨?_, fun k hk => tagV_own hk⟩, fun f hf => ?_⟩, h.ope.but k (hR (by decide) (by decide) (by decide)) hO (h1.is (by decide)) (fun _ h => h), h4⟩
  · rw [List.length_append, List.length_singleton, List.flatMap_append, show ([e] : List TE).flatMap tc = tc e by simp]
    exact hrow
  · rcases List.mem_append.1 hf with hf | hf
    · exact (h.sea.el f hf).but k hO
    · rw [show f = e by simpa using hf]; exact he
theorem Rl.addO (h : Rl base w ro gx vp vs vo LP LS LO) (hb : base ≤ w.heap.size) {e : TE} (k : But (fun b => vo.ownBlock = some b ∨ b = gx) w w') (hrow : w'.ownsRow 0 46 15 v' (LO.length + 1) (LO.flatMap tc ++ tc e)) (ha : ∀ k, v'.ownBlock = some k → vo.ownBlock = some k ∨ w.heap.size ≤ k) (hl : ∀ k, v'.ownBlock = some k → k < w'.heap.size) (hblk : Blk w' gx 41 [vp, vs, v']) (he : Tv w' (· < base) e.1 e.2.1 e.2.2) :
    ∃ ro', Fresh w ro ro' ∧ Rl base w' ro' gx vp vs v' LP LS (LO ++ [e]) := by
  obtain ⟨h1, h2, h3, h4⟩ := tag_add (t := .str) h.top h.new hb k.size (fun k hk => h.ope.row.inF k hk) ha hl
  have hR : ∀ {t : Tag}, t ≠ .none → t ≠ .str → t ≠ .log → ∀ b, Is ro t b → ¬ (vo.ownBlock = some b ∨ b = gx) := fun q1 q2 q3 b hb hh => by
    rcases hh with hh | hh
    · exact q2 ((show ro b = _ from hb).symm.trans (h.ope.row.inF b hh))
    · exact q3 ((show ro b = _ from hb).symm.trans (by rw [hh]; exact h.tag))
  have hO : ∀ b, b < base → ¬ (vo.ownBlock = some b ∨ b = gx) := fun b hb hh => by
    rcases hh with hh | hh
    · have := h.new b (by rw [show ro b = _ from h.ope.row.inF b hh]; decide); omega
    · have := h.new b (by rw [hh, h.tag]; decide); omega
  refine ⟨_, h2, h3, h1.is (by decide) gx h.tag, hblk, h.prs.but k (hR (by decide) (by decide) (by decide)) hO (h1.is (by decide)) (fun _ h => h), h.sea.but k (hR (by decide) (by decide) (by decide)) hO (h1.is (by decide)) (fun _ h => h), ⟨⟨?_, fun k hk => tagV_own hk⟩, fun f hf => ?_⟩, h4⟩
  · rw [List.length_append, List.length_singleton, List.flatMap_append, show ([e] : List TE).flatMap tc = tc e by simp]
    exact hrow
  · rcases List.mem_append.1 hf with hf | hf
    · exact (h.ope.el f hf).but k hO
    · rw [show f = e by simpa using hf]; exact he
end
/-- Both logs, new since w0. -/
structure Two (w0 w : World) (own ro : Owner) (gl gx : Nat) (P : List Pr) (S O : List Tup) (vp vs vo : Value) (LP : List PE) (LS LO : List TE) : Prop where
  log : LgN w0 w own gl P S O
  ref : Rl w0.heap.size w ro gx vp vs vo LP LS LO
  apart : ∀ b, ro b ≠ .none → own b = .none
section
variable {w0 w W : World} {own ro ro' : Owner} {gl gx : Nat} {P P' : List Pr} {S S' O O' : List Tup} {vp vs vo up us uo : Value} {LP MP : List PE} {LS LO MS MO : List TE}
theorem Two.then (h : Two w0 w own ro gl gx P S O vp vs vo LP LS LO) (k : Grow w W) : Two w0 W own ro gl gx P S O vp vs vo LP LS LO :=
  ⟨h.log.then k, h.ref.but k (fun _ _ h => h) (fun _ _ h => h), h.apart⟩
theorem Two.to (h : Two w0 w own ro gl gx P S O vp vs vo LP LS LO) (k : LgTo w own gl P' S' O' W) : ∃ own', Two w0 W own' ro gl gx P' S' O' vp vs vo LP LS LO ∧ ∀ b, b < w.heap.size → own' b = own b := by
  obtain ⟨own', h1, h2, h3⟩ := k.ex
  have hsame : ∀ b, b < w.heap.size → own' b = own b := fun b hb => by
    by_cases e : own' b = own b
    · exact e
    · have := h2 b e; omega
  refine ⟨own', ⟨⟨h3, h.log.grow.then k.but (fun i hi e => by have := h.log.new i e; omega), fun b hb => ?_⟩, h.ref.but k.but (fun b hb e => e (h.apart b hb)) (fun b hb e => by have := h.log.new b e; omega), fun b hb => ?_⟩, hsame⟩
  · by_cases hq : own' b = own b
    · exact h.log.new b (by rw [← hq]; exact hb)
    · exact Nat.le_trans h.log.grow.size (h2 b hq)
  · rw [hsame b (h.ref.top.lt hb)]; exact h.apart b hb
theorem Two.turn (h : Two w0 w own ro gl gx P S O vp vs vo LP LS LO) (k : But (fun b => ro b ≠ .none) w W) (hf : Fresh w ro ro') (hr : Rl w0.heap.size W ro' gx up us uo MP MS MO) : Two w0 W own ro' gl gx P S O up us uo MP MS MO := by
  refine ⟨⟨h.log.lg.but k (fun b hb e => hb (h.apart b e)), h.log.grow.then k (fun i hi e => by have := h.ref.new i e; omega), h.log.new⟩, hr, fun b hb => ?_⟩
  by_cases e : ro' b = ro b
  · exact h.apart b (by rw [← e]; exact hb)
  · exact h.log.lg.top b (hf b e)
end
end Go.Proofs.YthpgjbblbhjndaaDoor
/- What the laws ask besides: great. -/
namespace Go.Proofs.YthpgjbblbhjndaaDoor
open Go.RowKit

def GSmall (a : GA) : Prop := a.2.1.length ≤ 10000 ∧ a.2.2.2.2.2.1.length ≤ 10000 ∧ a.2.2.2.2.2.2.length ≤ 10000
/-- What great tells: whether all is small. -/
structure GTold (w : World) (n : Nat) (A : Nat → GA) (b : Bool) (w' : World) : Prop where
  grow : Grow w w'
  small : b = false → ∀ i, i < n → i < 300 → GSmall (A i)
def GreatIs (w : World) (n : Nat) (A : Nat → GA) (e : Ending) (w' : World) : Prop := ∃ b, e = .returned (.bool b) ∧ GTold w n A b w'
theorem wrapG (n : Int) (h1 : -9223372036854775808 ≤ n) (h2 : n < 9223372036854775808) : IntKind.i64.wrap n = n := by
  simp [IntKind.wrap, IntKind.bits, IntKind.signed]; omega
theorem GAct.three {w : World} {b o : Nat} {a : GA} (h : GAct w b o a) : ∃ ad cd aa ca az cs, w.cell? ⟨b, o + 1, none⟩ = some (.slice ad a.2.1.length cd) ∧ w.cell? ⟨b, o + 34 + 13, none⟩ = some (.slice aa a.2.2.2.2.2.1.length ca) ∧ w.cell? ⟨b, o + 34 + 14, none⟩ = some (.slice az a.2.2.2.2.2.2.length cs) := by
  obtain ⟨ud, va, vs, hc, hd, ht⟩ := h.ex
  obtain ⟨ad, cd, rfl, -, -⟩ := hd.gen
  obtain ⟨aa, ca, rfl, -, -⟩ := ht.aad.1.gen
  obtain ⟨az, cs, rfl, -, -⟩ := ht.sea.1.gen
  obtain ⟨k, dt, dg, e, nn, xa, xs⟩ := a
  have hdl : dg.length = 32 := h.dg.1
  have hnl : nn.length = 12 := ht.nl
  refine ⟨ad, cd, aa, ca, az, cs, hc 1 _ rfl, ?_, ?_⟩
  · have := hc 47 (.slice aa xa.length ca) (by
      show ((.int .i64 k : Value) :: _ :: (u8s dg ++ (.int .u32 (e : Int) :: (u8s nn ++ [_, _]))))[47]? = _
      rw [List.getElem?_cons_succ, List.getElem?_cons_succ, List.getElem?_append_right (by simp [u8s, hdl])]
      simp only [u8s, List.length_map, hdl]
      rw [show 45 - 32 = 12 + 1 from rfl, List.getElem?_cons_succ, List.getElem?_append_right (by simp [hnl])]
      simp [hnl])
    simpa [Nat.add_assoc] using this
  · have := hc 48 (.slice az xs.length cs) (by
      show ((.int .i64 k : Value) :: _ :: (u8s dg ++ (.int .u32 (e : Int) :: (u8s nn ++ [_, _]))))[48]? = _
      rw [List.getElem?_cons_succ, List.getElem?_cons_succ, List.getElem?_append_right (by simp [u8s, hdl])]
      simp only [u8s, List.length_map, hdl]
      rw [show 46 - 32 = 13 + 1 from rfl, List.getElem?_cons_succ, List.getElem?_append_right (by simp [hnl])]
      simp [hnl])
    simpa [Nat.add_assoc] using this
set_option maxRecDepth 100000 in
set_option maxHeartbeats 4000000 in
theorem great_any {w : World} {v : Value} {n : Nat} {A : Nat → GA} (h : GActs w v n A) :
    Calls Tryd.prog 9 #[v] w (GreatIs w n A) := by
  obtain ⟨hn, h⟩ := h
  have HP0 : Hid (0 < n → ∃ b off cap, v = .slice (some ⟨b, off, none⟩) n cap ∧ b < w.heap.size ∧ ∀ i, i < n → GAct w b (off + i * 49) (A i)) := by
    rcases h with ⟨h, _⟩ | ⟨_, h⟩
    · intro h0; omega
    · exact fun _ => h
  obtain ⟨ao, cap, rfl⟩ : ∃ ao cap, v = .slice ao n cap := by
    rcases h with ⟨rfl, h⟩ | ⟨_, b, off, cap, h, _⟩
    · exact h
    · exact ⟨_, _, h⟩
  have HPG : Hid (0 < n → ∃ b off, ao = some ⟨b, off, none⟩ ∧ b < w.heap.size ∧ ∀ i, i < n → GAct w b (off + i * 49) (A i)) := fun h0 => by
    obtain ⟨b, off, cp, e, h⟩   := HP0.out h0
    simp only [Value.slice.injEq] at e
    exact ⟨b, off, e.1, h⟩
  clear h HP0
  go_enter Tryd.func9, Tryd.ntmps9
  go_wp2
  go_loopw [3, 4] (fun s i wr => ∃ k N : Nat, k ≤ n ∧ k ≤ 300 ∧ i = .int .i64 k ∧ s = .int .i64 N ∧ N ≤ k * 30000 ∧ (∀ j, j < k → GSmall (A j)) ∧ Grow w wr) (fun _ i _ => n - (intOf i).toNat)
  case atStart => exact ⟨0, 0, Nat.zero_le _, by decide, rfl, rfl, by decide, fun j hj => by omega, But.refl _ _⟩
  case round =>
    obtain ⟨k, N, hkn, hk3, rfl, rfl, hN, hr, hg⟩ := hrel
    have HR := Hid.mk' hr
    have HG := Hid.mk' hg
    clear hr hg
    by_cases hlt : k < n
    · have hlti : (k : Int) < (n : Int) := by omega
      by_cases hk : k < 300
      · have hki : (k : Int) < 300 := by omega
        obtain ⟨b, off, rfl, hb, hc⟩ := HPG.out (by omega)
        have hrw := (hc k hlt).but hb HG.out
        obtain ⟨ad, cd, aa, ca, az, cs, c1, c2, c3⟩ := hrw.three
        have hlens := hrw.lens
        have HSM : Hid ((A k).2.1.length ≤ 10000 → (A k).2.2.2.2.2.1.length ≤ 10000 → (A k).2.2.2.2.2.2.length ≤ 10000 → GSmall (A k)) := fun h1 h2 h3 => ⟨h1, h2, h3⟩
        clear hc hrw
        generalize (A k).2.1.length = l1 at *
        generalize (A k).2.2.2.2.2.1.length = l2 at *
        generalize (A k).2.2.2.2.2.2.length = l3 at *
        obtain ⟨hl1, hl2, hl3⟩ := hlens
        by_cases h1 : l1 ≤ 10000
        · have h1i : ¬ (10000 : Int) < (l1 : Int) := by omega
          by_cases h2 : l2 ≤ 10000
          · have h2i : ¬ (10000 : Int) < (l2 : Int) := by omega
            by_cases h3 : l3 ≤ 10000
            · have h3i : ¬ (10000 : Int) < (l3 : Int) := by omega
              have HB := Hid.mk' hb
              clear hb
              go_upto_region 7 with fail
              refine region_chain [] [0, 1, 2, 3, 4, 5, 6, 7, 8, 9, 10, 11, 12, 13, 14, 15, 16, 17, 18, 19, 20, 21, 22, 23, 24] (Grow wr) (Grow wr) (by kernel_rfl) (by kernel_rfl) (fun _ _ h k => h.trans k) (fun _ h => h) ((But.refl _ wr).drew) ?_
              intro ι hne X hX
              have d1 : ∀ x, (X x).cell? ⟨b, off + k * 49 + 1, none⟩ = some (.slice ad l1 cd) := fun x => (World.cell?_of_block ((hX x).block b (Nat.lt_of_lt_of_le HB.out HG.out.size) (fun h => h))).trans c1
              have d2 : ∀ x, (X x).cell? ⟨b, off + k * 49 + 34 + 13, none⟩ = some (.slice aa l2 ca) := fun x => (World.cell?_of_block ((hX x).block b (Nat.lt_of_lt_of_le HB.out HG.out.size) (fun h => h))).trans c2
              have d3 : ∀ x, (X x).cell? ⟨b, off + k * 49 + 34 + 14, none⟩ = some (.slice az l3 cs) := fun x => (World.cell?_of_block ((hX x).block b (Nat.lt_of_lt_of_le HB.out HG.out.size) (fun h => h))).trans c3
              iterate 25 (refine still_step rfl (fun K hK => ?_); go_simp; refine hK _ ?_; clear hK K)
              refine still_nil ?_
              clear d1 d2 d3 hX hne
              intro w' hw'
              go_wp2
              refine ⟨⟨k + 1, N + l1 + l2 + l3, by omega, by omega, by go_num, ?_, by omega, fun j hj => ?_, HG.out.trans hw'⟩, by simp [intOf]; omega⟩
              · rw [wrapG ((N : Int) + (l1 : Int)) (by omega) (by omega), wrapG ((N : Int) + (l1 : Int) + (l2 : Int)) (by omega) (by omega), wrapG _ (by omega) (by omega)]; push_cast; rfl
              by_cases e : j < k
              · exact HR.out j e
              · obtain rfl : j = k := by omega
                exact HSM.out h1 h2 h3
            · have h3i : (10000 : Int) < (l3 : Int) := by omega
              go_wp2
              go_ret
              exact ⟨true, rfl, HG.out, nofun⟩
          · have h2i : (10000 : Int) < (l2 : Int) := by omega
            go_wp2
            go_ret
            exact ⟨true, rfl, HG.out, nofun⟩
        · have h1i : (10000 : Int) < (l1 : Int) := by omega
          go_wp2
          go_ret
          exact ⟨true, rfl, HG.out, nofun⟩
      · have hki : ¬ (k : Int) < 300 := by omega
        go_wp2
        go_ret
        exact ⟨_, rfl, HG.out, fun _ i hi h3 => HR.out i (by omega)⟩
    · have hge : ¬ ((k : Int) < (n : Int)) := by omega
      go_wp2
      go_ret
      exact ⟨_, rfl, HG.out, fun _ i hi h3 => HR.out i (by omega)⟩
end Go.Proofs.YthpgjbblbhjndaaDoor
/- What the law's played needs besides: a pair built, an own row written into, a row cut in two, and new memory turned beside both logs. -/
namespace Go.Proofs.YthpgjbblbhjndaaDoor
open Go.RowKit

theorem list32 {α : Type} {n : List α} (h : n.length = 32) : ∃ a0 a1 a2 a3 a4 a5 a6 a7 a8 a9 a10 a11 a12 a13 a14 a15 a16 a17 a18 a19 a20 a21 a22 a23 a24 a25 a26 a27 a28 a29 a30 a31, n = [a0, a1, a2, a3, a4, a5, a6, a7, a8, a9, a10, a11, a12, a13, a14, a15, a16, a17, a18, a19, a20, a21, a22, a23, a24, a25, a26, a27, a28, a29, a30, a31] := by
  match n, h with
  | [a0, a1, a2, a3, a4, a5, a6, a7, a8, a9, a10, a11, a12, a13, a14, a15, a16, a17, a18, a19, a20, a21, a22, a23, a24, a25, a26, a27, a28, a29, a30, a31], _ => exact ⟨a0, a1, a2, a3, a4, a5, a6, a7, a8, a9, a10, a11, a12, a13, a14, a15, a16, a17, a18, a19, a20, a21, a22, a23, a24, a25, a26, a27, a28, a29, a30, a31, rfl⟩
theorem built_pair (a0 a1 a2 a3 a4 a5 a6 a7 a8 a9 a10 a11 a12 a13 a14 a15 a16 a17 a18 a19 a20 a21 a22 a23 a24 a25 a26 a27 a28 a29 a30 a31 : Int) (aa : Option Addr) (na ca : Nat) : Tryd.prog.built 37 [(0, .slice aa na ca), (1, .agg #[.int .u8 a0, .int .u8 a1, .int .u8 a2, .int .u8 a3, .int .u8 a4, .int .u8 a5, .int .u8 a6, .int .u8 a7, .int .u8 a8, .int .u8 a9, .int .u8 a10, .int .u8 a11, .int .u8 a12, .int .u8 a13, .int .u8 a14, .int .u8 a15, .int .u8 a16, .int .u8 a17, .int .u8 a18, .int .u8 a19, .int .u8 a20, .int .u8 a21, .int .u8 a22, .int .u8 a23, .int .u8 a24, .int .u8 a25, .int .u8 a26, .int .u8 a27, .int .u8 a28, .int .u8 a29, .int .u8 a30, .int .u8 a31])] = some #[.slice aa na ca, .int .u8 a0, .int .u8 a1, .int .u8 a2, .int .u8 a3, .int .u8 a4, .int .u8 a5, .int .u8 a6, .int .u8 a7, .int .u8 a8, .int .u8 a9, .int .u8 a10, .int .u8 a11, .int .u8 a12, .int .u8 a13, .int .u8 a14, .int .u8 a15, .int .u8 a16, .int .u8 a17, .int .u8 a18, .int .u8 a19, .int .u8 a20, .int .u8 a21, .int .u8 a22, .int .u8 a23, .int .u8 a24, .int .u8 a25, .int .u8 a26, .int .u8 a27, .int .u8 a28, .int .u8 a29, .int .u8 a30, .int .u8 a31] := by kernel_rfl
theorem build_pair {xs D : List Nat} (h : D.length = 32) (aa : Option Addr) (na ca : Nat) (w : World) : (Instr.build 37 #[(0, .slice aa na ca), (1, .agg (u8s D).toArray)]).run Tryd.prog w = .ok (.agg (pc ((xs, D), .slice aa na ca)).toArray) w := by
  obtain ⟨a0, a1, a2, a3, a4, a5, a6, a7, a8, a9, a10, a11, a12, a13, a14, a15, a16, a17, a18, a19, a20, a21, a22, a23, a24, a25, a26, a27, a28, a29, a30, a31, rfl⟩ := list32 h
  exact run_build w _ _ _ (built_pair a0 a1 a2 a3 a4 a5 a6 a7 a8 a9 a10 a11 a12 a13 a14 a15 a16 a17 a18 a19 a20 a21 a22 a23 a24 a25 a26 a27 a28 a29 a30 a31 aa na ca)
theorem pc_len' {xs D : List Nat} {v : Value} (h : D.length = 32) : (pc ((xs, D), v)).length = 33 := by simp [pc, u8s, h]
theorem pc_one {xs D : List Nat} {v : Value} (h : v.oneCell' = true) : ∀ u ∈ pc ((xs, D), v), u.oneCell' = true := by
  intro u hu
  rcases List.mem_cons.1 hu with rfl | hu
  · exact h
  · exact u8s_one _ u hu
/-- New memory turned. -/
theorem Two.but {R : Nat → Prop} {w0 w W : World} {own ro : Owner} {gl gx : Nat} {P : List Pr} {S O : List Tup} {vp vs vo : Value} {LP : List PE} {LS LO : List TE} (h : Two w0 w own ro gl gx P S O vp vs vo LP LS LO) (k : But R w W) (hR : ∀ b, R b → own b = .none ∧ ro b = .none ∧ w0.heap.size ≤ b) : Two w0 W own ro gl gx P S O vp vs vo LP LS LO :=
  ⟨⟨h.log.lg.but k (fun b hb e => hb (hR b e).1), h.log.grow.then k (fun i hi e => by have := (hR i e).2.2; omega), h.log.new⟩, h.ref.but k (fun b hb e => hb (hR b e).2.1) (fun b hb e => by have := (hR b e).2.2; omega), h.apart⟩
/-- An own row laid open, and shut. -/
theorem Ow.opn {w : World} {base : Nat} {v : Value} {zs : List Nat} (h : Ow w base v zs) (h0 : 0 < zs.length) :
    ∃ g cap R, v = .slice (some ⟨g, 0, none⟩) zs.length cap ∧ base ≤ g ∧ Blk w g 5 (u8s zs ++ R) ∧ R.length = cap - zs.length ∧ zs.length ≤ cap ∧ cap ≤ maxLen := by
  obtain ⟨hl, ⟨_, h1⟩ | ⟨g, cap, cur, rfl, hge, hb, h1, h2, h3, h4⟩⟩ := h.own
  · omega
  · refine ⟨g, cap, cur.toList.drop zs.length, rfl, hge, ?_, by rw [List.length_drop, Array.length_toList, h3, Nat.mul_one], h1, h2⟩
    rw [Nat.mul_one] at h4
    have e : u8s zs ++ cur.toList.drop zs.length = cur.toList := by rw [← h4, List.take_append_drop]
    show w.heap[g]? = some (.cells (u8s zs ++ cur.toList.drop zs.length).toArray _ _)
    rw [e, hb]
theorem Ow.shu {w : World} {base g cap : Nat} {zs : List Nat} {R : List Value} (hb : Blk w g 5 (u8s zs ++ R)) (hg : base ≤ g) (hz : ∀ z ∈ zs, z < 256) (hl : zs.length ≤ 281474976710656) (hR : R.length = cap - zs.length) (hc : zs.length ≤ cap) (hm : cap ≤ maxLen) :
    Ow w base (.slice (some ⟨g, 0, none⟩) zs.length cap) zs := by
  refine ⟨hz, hl, by simp [u8s], .inr ⟨g, cap, (u8s zs ++ R).toArray, rfl, hg, hb, hc, hm, ?_, ?_⟩⟩
  · rw [List.size_toArray, List.length_append, hR]; unfold u8s; rw [List.length_map]; omega
  · rw [Nat.mul_one]
    show (u8s zs ++ R).take zs.length = u8s zs
    have hs : (u8s zs).length = zs.length := by simp [u8s]
    rw [← hs, List.take_append_of_le_length (Nat.le_refl _), List.take_of_length_le (Nat.le_refl _)]
/-- A byte of an own row turned. -/
theorem Ow.setA {w : World} {base g n cap i y : Nat} {zs : List Nat} (h : Ow w base (.slice (some ⟨g, 0, none⟩) n cap) zs) (hn : zs.length = n) (hi : i < zs.length) (hy : y < 256) : Ow (w.setCell ⟨g, i, none⟩ (.int .u8 (y : Int))) base (.slice (some ⟨g, 0, none⟩) n cap) (zs.set i y) := by
  obtain ⟨g', cap', R, e, hge, hb, hR, hc, hm⟩ := h.opn (by omega)
  simp only [Value.slice.injEq, Option.some.injEq, Addr.mk.injEq, and_true] at e
  obtain ⟨rfl, e2, rfl⟩ := e
  have h2 := hb.set i (.int .u8 (y : Int))
  rw [List.set_append_left _ _ (by simp [u8s]; exact hi), u8s_set] at h2
  have h3 := Ow.shu (base := base) (cap := cap) h2 hge (by
    intro z hz
    rcases List.mem_or_eq_of_mem_set hz with h4 | h4
    · exact h.lt z h4
    · rw [h4]; exact hy) (by rw [List.length_set]; exact h.len) (by rw [List.length_set]; exact hR) (by rw [List.length_set]; exact hc) hm
  rw [List.length_set, hn] at h3
  exact h3
theorem slice_up {a : Addr} {m cap n : Nat} (hn : n ≤ cap) (w0 : World) :
    (Instr.sliceAt 31 (.slice (some a) m cap) none (some (.int .i64 (n : Int))) none).run Tryd.prog w0 = .ok (.slice (some a) n cap) w0 := by
  have hn' : (n : Int) ≤ (cap : Int) := by omega
  go_simp
theorem slice_up0 (w0 : World) :
    (Instr.sliceAt 31 (.slice none 0 0) none (some (.int .i64 0)) none).run Tryd.prog w0 = .ok (.slice none 0 0) w0 := by
  go_simp
set_option maxRecDepth 100000 in
/-- A row cut in two. -/
theorem Bs.halve {w : World} {v : Value} {xs : List Nat} {n : Nat} (h : Bs w v xs) (hn : n ≤ xs.length) : ∃ p q, (∀ w0 : World, (Instr.sliceAt 31 v none (some (.int .i64 (n : Int))) none).run Tryd.prog w0 = .ok p w0) ∧ (∀ w0 : World, (Instr.sliceAt 31 v (some (.int .i64 (n : Int))) none none).run Tryd.prog w0 = .ok q w0) ∧ Bs w p (xs.take n) ∧ Bs w q (xs.drop n) := by
  have hu : Tryd.prog.underlying 31 = some (.slice (Tryd.prog.elem 31)) := by kernel_rfl
  have he : Tryd.prog.elem 31 = 5 := by kernel_rfl
  have hs : ∀ w0 : World, (sizeOf 5).run Tryd.prog w0 = .ok 1 w0 := fun w0 => by kernel_rfl
  have h' := h
  obtain ⟨h1, h2, ⟨rfl, h3⟩ | ⟨h0, b, off, cap, rfl, hcap, hb, hcell⟩⟩ := h
  · obtain rfl : n = 0 := by simpa using hn
    rcases h3 with rfl | ⟨a, cap, rfl⟩
    · refine ⟨.slice none 0 0, .slice none 0 0, fun w0 => ?_, fun w0 => ?_, Bs.nil _, Bs.nil _⟩
      · exact slice_up0 w0
      · rw [run_sliceAt_slice _ _ _ _ _ _ hu, run_slice_l w0 _ _ _ _ hu .i64 ((0 : Nat) : Int) (by omega) (by omega), he, hs]; rfl
    · refine ⟨.slice (some a) 0 cap, .slice (some (if cap = 0 then a else a.add 0)) 0 cap, fun w0 => ?_, fun w0 => ?_, ⟨nofun, by simp, .inl ⟨rfl, .inr ⟨_, _, rfl⟩⟩⟩, ⟨nofun, by simp, .inl ⟨rfl, .inr ⟨_, _, rfl⟩⟩⟩⟩
      · exact slice_up (Nat.zero_le _) w0
      · rw [run_sliceAt_slice _ _ _ _ _ _ hu, run_slice_l w0 _ _ _ _ hu .i64 ((0 : Nat) : Int) (by omega) (by omega), he, hs]
        by_cases hcn : cap = 0 <;> simp [Result.andThen, sliced, hcn]
  · obtain ⟨q, hq, hbq, -⟩ := h'.cut rfl h0 hn hcap
    refine ⟨.slice (some ⟨b, off, none⟩) n cap, q, fun w0 => ?_, hq, h'.front hn (by simp), hbq⟩
    exact slice_up (by omega) w0
theorem u8_next : ∀ z : Nat, z < 256 → IntKind.u8.wrap ((z : Int) + 1) = (((z + 1) % 256 : Nat) : Int) := by decide +kernel
theorem ps2 {w : World} {g : Nat} {p q : Value} {xs ys : List Nat} (hb : Blk w g 31 [p, q]) (h1 : Bs w p xs) (h2 : Bs w q ys) : Ps w (.slice (some ⟨g, 0, none⟩) 2 2) [xs, ys] := by
  refine .inr ⟨by simp, g, 0, 2, rfl, hb.lt, fun i hi => ?_⟩
  rcases (by simp at hi; omega : i = 0 ∨ i = 1) with rfl | rfl
  · exact ⟨p, by rw [hb.cell]; rfl, h1⟩
  · exact ⟨q, by rw [hb.cell]; rfl, h2⟩
theorem exec_slc {w : World} {o : Oper} {ρ : Operand → Value} {T : TypeId} {x : Operand} {lo hi : Option Operand} (ho : o.op = .slice T x lo hi none) {v r : Value} {l h : Option Value} (hx : ρ x = v) (hl : lo.map ρ = l) (hh : hi.map ρ = h) (hr : (Instr.sliceAt T v l h none).run Tryd.prog w = .ok r w) : (execOp ρ o).run Tryd.prog w = .ok (.value r) w := by
  unfold execOp
  simp only [ho, Option.map_none, hx, hl, hh]
  simp only [Sem.run_bind, hr, Result.andThen_ok, Sem.run_pure]
end Go.Proofs.YthpgjbblbhjndaaDoor
/- The law's played. -/
namespace Go.Proofs.YthpgjbblbhjndaaDoor
open Go.RowKit

theorem pick4 (x : Int) (w : World) :
    Calls Tryd.prog 28 #[.int .i64 x, .int .i64 4] w fun e w' => ∃ k : Nat, e = .returned (.int .i64 (k : Int)) ∧ k < 4 ∧ w' = w := by
  have ht1 : x.tmod 4 < 4 := Int.tmod_lt_of_pos x (by omega)
  have ht2 : -(4 : Int) < x.tmod 4 := by
    have := Int.lt_tmod_of_pos x (b := (4 : Int)) (by omega)
    omega
  obtain ⟨m, hm⟩ : ∃ m, m = x.tmod 4 := ⟨_, rfl⟩
  rw [← hm] at ht1 ht2
  by_cases hneg : m < 0
  · go_enter Tryd.func28, Tryd.ntmps28
    go_wp2
    go_ret
    exact ⟨(m + 4).toNat, by simp; omega, by omega, rfl⟩
  · go_enter Tryd.func28, Tryd.ntmps28
    go_wp2
    go_ret
    exact ⟨m.toNat, by simp; omega, by omega, rfl⟩
/-- Both logs behind k acts. -/
structure PlayS (w wr : World) (gl gx k : Nat) : Prop where
  ex : ∃ own ro vp vs vo LP LS LO, Two w wr own ro gl gx (LP.map (·.1)) (LS.map (·.1)) (LO.map (·.1)) vp vs vo LP LS LO ∧ (LP.length ≤ k ∧ LS.length ≤ k ∧ LO.length ≤ k) ∧ (∀ e ∈ LP, e.1.1.length ≤ 10000) ∧ (∀ e ∈ LS, e.1.2.2.1.length ≤ 10000 ∧ e.1.2.2.2.length ≤ 10000) ∧ (∀ e ∈ LO, e.1.2.2.1.length ≤ 10000 ∧ e.1.2.2.2.length ≤ 10000)
structure PlayTo (w : World) (e : Ending) (w' : World) : Prop where
  ex : ∃ gl gx, e = .returned (.tuple #[.pointer (some ⟨gl, 0, none⟩), .pointer (some ⟨gx, 0, none⟩), .bool true]) ∧ PlayS w w' gl gx 300
theorem PlayS.up {w wr : World} {gl gx k l : Nat} (h : PlayS w wr gl gx k) (hl : k ≤ l) : PlayS w wr gl gx l := by
  obtain ⟨own, ro, vp, vs, vo, LP, LS, LO, h1, ⟨h2, h3, h4⟩, h5⟩ := h.ex
  exact ⟨own, ro, vp, vs, vo, LP, LS, LO, h1, ⟨by omega, by omega, by omega⟩, h5⟩
def zeroL : List Value := [.slice none 0 0, .slice none 0 0, .slice none 0 0]
theorem bL (w : World) : (Instr.build 41 #[]).run Tryd.prog w = .ok (.agg zeroL.toArray) w := run_build w _ _ _ (by kernel_rfl)
def zeroA : List Value := .int .i64 0 :: .slice none 0 0 :: (List.replicate 32 (.int .u8 0) ++ zeroT)
theorem zA (w : World) : (zeroValue 59).run Tryd.prog w = .ok (.agg zeroA.toArray) w := by kernel_rfl
theorem iA : (Tryd.prog.info? 59).map (·.size) = some 49 := by kernel_rfl
theorem two_new {w w1 : World} {own : Owner} {gl : Nat} (h : LgN w w1 own gl [] [] []) : Two w (w1.alloc (.cells zeroL.toArray 41)) own (tagAt (fun _ => .none) w1.heap.size .log) gl w1.heap.size [] [] [] (.slice none 0 0) (.slice none 0 0) (.slice none 0 0) [] [] [] := by
  have hb : Blk (w1.alloc (.cells zeroL.toArray 41)) w1.heap.size 41 zeroL := Blk.new rfl
  refine ⟨h.then ((But.refl _ w1).alloc _), ⟨Top.tagAt (fun _ _ => rfl) (by simp), tagAt_own, hb, PRow.nil _ _ _, TRow.nil _ _ _, TRow.nil _ _ _, fun b hb => ?_⟩, fun b hb => ?_⟩
  all_goals
    by_cases e : b = w1.heap.size
    · subst e
      first | exact h.grow.size | exact h.lg.top _ (Nat.le_refl _)
    · exact absurd (by unfold tagAt; rw [if_neg e]) hb
theorem Bs.bf {w : World} {v : Value} {xs : List Nat} (h : Bs w v xs) : Bf w (· < w.heap.size) v xs := ⟨h, fun h0 j hj => by
  rcases Nat.lt_or_ge j w.heap.size with e | e
  · exact e
  · exact absurd hj (h.own h0 e)⟩
theorem TNew.free {w w0 : World} {own : Owner} {base : Nat} {T : Tup} {va vs : Value} (h : TNew w base T va vs) (ht : Top w0 own) (hb : w0.heap.size ≤ base) : Tv w (Is own .none) T va vs :=
  ⟨h.ep, h.nl, h.nt, ⟨h.aad.bs, fun _ j hj => ht j (Nat.le_trans hb (h.aad.ge j hj).1)⟩, ⟨h.sea.bs, fun _ j hj => ht j (Nat.le_trans hb (h.sea.ge j hj).1)⟩⟩
theorem addr_add (b o c : Nat) : (⟨b, o, none⟩ : Addr).add c = ⟨b, o + c, none⟩ := by
  by_cases hz : c = 0
  · subst hz; simp [Addr.add]
  · simp [Addr.add]; exact fun h => absurd h hz
theorem gcells_t {a : GA} (h : a.2.2.1.length = 32) {ud va vs : Value} {c : Nat} {u : Value} (hc : (tcells a.2.2.2 va vs)[c]? = some u) : (gcells a ud va vs)[34 + c]? = some u := by
  show ((.int .i64 a.1 : Value) :: ud :: (u8s a.2.2.1 ++ tcells a.2.2.2 va vs))[34 + c]? = _
  rw [show 34 + c = (32 + c) + 1 + 1 by omega, List.getElem?_cons_succ, List.getElem?_cons_succ, List.getElem?_append_right (by simp [u8s, h])]
  simpa [u8s, h] using hc
theorem gcells_d {a : GA} {ud va vs : Value} {c : Nat} {u : Value} (hc : (u8s a.2.2.1)[c]? = some u) : (gcells a ud va vs)[2 + c]? = some u := by
  show ((.int .i64 a.1 : Value) :: ud :: (u8s a.2.2.1 ++ tcells a.2.2.2 va vs))[2 + c]? = _
  have hl : c < (u8s a.2.2.1).length := by
    rcases Nat.lt_or_ge c (u8s a.2.2.1).length with h | h
    · exact h
    · rw [List.getElem?_eq_none h] at hc; cases hc
  rw [show 2 + c = c + 1 + 1 by omega, List.getElem?_cons_succ, List.getElem?_cons_succ, List.getElem?_append_left hl]
  exact hc
theorem GAct.all {w : World} {b o : Nat} {a : GA} (h : GAct w b o a) : ∃ ud va vs, (gcells a ud va vs).length = 49 ∧ (∀ u ∈ gcells a ud va vs, u.oneCell' = true) ∧ (∀ c u, (gcells a ud va vs)[c]? = some u → w.cell? ((⟨b, o, none⟩ : Addr).add c) = some u) ∧ Bs w ud a.2.1 ∧ Tv w (fun _ => True) a.2.2.2 va vs := by
  obtain ⟨ud, va, vs, hc, hd, ht⟩ := h.ex
  have h1 := h.dg.1
  refine ⟨ud, va, vs, by simp [gcells, u8s, h1, tcells_len ht.nl], fun u hu => ?_, fun c u hcu => ?_, hd, ht⟩
  · rcases List.mem_cons.1 hu with rfl | hu
    · rfl
    · rcases List.mem_cons.1 hu with rfl | hu
      · exact hd.one
      · rcases List.mem_append.1 hu with hu | hu
        · exact u8s_one _ u hu
        · exact tcells_one ht.aad.1.one ht.sea.1.one u hu
  · rw [addr_add]; exact hc c u hcu
set_option maxRecDepth 100000 in
set_option maxHeartbeats 8000000 in
theorem played_any {w : World} {v : Value} {n : Nat} {A : Nat → GA} (hk : Kw w) (hh : Hw w) (h : GActs w v n A) (hs : ∀ i, i < n → i < 300 → GSmall (A i)) :
    Calls Tryd.prog 11 #[v] w (PlayTo w) := by
  obtain ⟨hn, h⟩ := h
  have HP0 : Hid (0 < n → ∃ b off cap, v = .slice (some ⟨b, off, none⟩) n cap ∧ b < w.heap.size ∧ ∀ i, i < n → GAct w b (off + i * 49) (A i)) := by
    rcases h with ⟨h, _⟩ | ⟨_, h⟩
    · intro h0; omega
    · exact fun _ => h
  obtain ⟨ao, cap, rfl⟩ : ∃ ao cap, v = .slice ao n cap := by
    rcases h with ⟨rfl, h⟩ | ⟨_, b, off, cap, h, _⟩
    · exact h
    · exact ⟨_, _, h⟩
  have HPG : Hid (0 < n → ∃ b off, ao = some ⟨b, off, none⟩ ∧ b < w.heap.size ∧ ∀ i, i < n → GAct w b (off + i * 49) (A i)) := fun h0 => by
    obtain ⟨b, off, cp, e, h⟩ := HP0.out h0
    simp only [Value.slice.injEq] at e
    exact ⟨b, off, e.1, h⟩
  have HK := Hid.mk' hk
  have HH := Hid.mk' hh
  have HSM := Hid.mk' hs
  obtain ⟨Z, hZ⟩ : ∃ Z, Z = zeroA := ⟨_, rfl⟩
  have hz := zA
  rw [← hZ] at hz
  have HZL : Hid (Z.length = 49) := by show _ = _; rw [hZ]; rfl
  obtain ⟨Y, hY⟩ : ∃ Y, Y = zeroL := ⟨_, rfl⟩
  have HBL := Hid.mk' bL
  rw [← hY] at HBL
  have HYE := Hid.mk' hY
  clear h HP0 hk hh hs hZ hY
  go_enter Tryd.func11, Tryd.ntmps11
  go_wp2_with fail
  refine Calls.mono (new_any (w := w) (fun _ => .none) (fun _ _ => rfl)) ?_
  rintro e w1 ⟨gl, rfl, hgl, hg1, hl1⟩
  have H1 : LgN w w1 (tagAt (fun _ => .none) gl .log) gl [] [] [] := ⟨hl1, hg1, fun b hb => by
    by_cases e : b = gl
    · omega
    · exact absurd (by unfold tagAt; rw [if_neg e]) hb⟩
  have H2 := Hid.mk' (two_new H1)
  clear hl1 hg1 hgl H1
  rw [← HYE.out] at H2
  go_upto_region 4 with (first
    | (refine wpList_build_run rfl _ [] rfl [] rfl (.agg Y.toArray) (HBL.out _) ?_)
    | fail)
  obtain ⟨gx, hgx⟩ : ∃ g, g = w1.heap.size := ⟨_, rfl⟩
  rw [← hgx] at H2 ⊢
  have H3 : Hid (PlayS w (w1.alloc (.cells Y.toArray 41)) gl gx 0) := ⟨_, _, _, _, _, [], [], [], H2.out, ⟨Nat.le_refl _, Nat.le_refl _, Nat.le_refl _⟩, nofun, nofun, nofun⟩
  clear hgx H2
  go_wp2
  go_loopw [7, 8] (fun rv iv wr => ∃ k : Nat, k ≤ n ∧ k ≤ 300 ∧ iv = .int .i64 k ∧ rv = .bool true ∧ PlayS w wr gl gx k) (fun _ iv _ => n - (intOf iv).toNat)
  case atStart => exact ⟨0, Nat.zero_le _, by decide, rfl, rfl, H3.out⟩
  case round =>
    clear H3 w1
    obtain ⟨k, hkn, hk3, rfl, rfl, hpl⟩ := hrel
    have HPL := Hid.mk' hpl
    clear hpl
    rcases (by omega : (k < n ∧ k < 300) ∨ (¬ k < n) ∨ (k < n ∧ ¬ k < 300)) with ⟨hlt, hk⟩ | hlt | ⟨hlt, hk⟩
    · have hlti : (k : Int) < (n : Int) := by omega
      have hki : (k : Int) < 300 := by omega
      obtain ⟨b, off, rfl, hb, hc⟩ := HPG.out (by omega)
      obtain ⟨own, ro, vp, vs, vo, LP, LS, LO, hT, hlen, hsP, hsS, hsO⟩ := HPL.out.ex
      have hga := hc k hlt
      obtain ⟨ud, va, vz, hgl, hg1, hgc, hgd, hgt⟩ := hga.all
      have HCE : Hid (∀ w', Grow w w' → ∀ c u, (gcells (A k) ud va vz)[c]? = some u → w'.cell? ((⟨b, off + k * 49, none⟩ : Addr).add c) = some u) := fun w' hw c u hcu => by
        have := hgc c u hcu
        rw [addr_add] at this ⊢
        exact (World.cell?_of_block (hw.block b hb (fun h => h))).trans this
      have HGL := Hid.mk' hgl
      have HG1 := Hid.mk' hg1
      have HGR := Hid.mk' hT.log.grow
      have HBZ : Hid (Blk (wr.alloc (.cells Z.toArray 59)) wr.heap.size 59 Z) := Blk.new rfl
      clear hc hgc hgl hg1
      go_upto_region 8 with (first
        | (refine wpList_load_cells rfl _ _ rfl ⟨b, off + k * 49, none⟩ rfl (gcells (A k) ud va vz) _ (HCE.out _ HGR.out) Tryd.underlying59 rfl (by rw [iA, HGL.out]) ?_)
        | (refine wpList_store_at rfl _ _ _ rfl wr.heap.size 0 (gcells (A k) ud va vz) rfl rfl 59 [] Z [] (by simpa using HBZ.out) rfl (by rw [HZL.out, HGL.out]) (by rw [iA, HGL.out]) HG1.out ?_; intro W1 hb1 hbut1; rw [List.nil_append, List.append_nil] at hb1)
        | fail)
      obtain ⟨g9, hg9⟩ : ∃ g, g = wr.heap.size := ⟨_, rfl⟩
      rw [← hg9] at hb1 hbut1 ⊢
      have hG1 : Grow wr W1 := ((But.refl _ wr).alloc _).then hbut1 (fun i hi e => by omega)
      have HT1 := Hid.mk' (hT.then hG1)
      have HO9 : Hid (own g9 = .none) := hT.log.lg.top g9 (by omega)
      have HR9 : Hid (ro g9 = .none) := hT.ref.top g9 (by omega)
      have HW1 : Hid (W1.heap.size = g9 + 1 ∨ g9 < W1.heap.size) := .inr hb1.lt
      have HG := Hid.mk' (HGR.out.trans hG1)
      have HA9 := Hid.mk' hb1
      have c0 : W1.cell? ⟨g9, 0, none⟩ = some (.int .i64 (A k).1) := hb1.cell 0
      have HTV : Hid (Tv w (· < w.heap.size) (A k).2.2.2 va vz) := ⟨hgt.ep, hgt.nl, hgt.nt, hgt.aad.1.bf, hgt.sea.1.bf⟩
      have HD := Hid.mk' hgd
      have HGA := Hid.mk' hga
      have HSMK := Hid.mk' (HSM.out k hlt hk)
      have HLEN := Hid.mk' hlen
      have HSP := Hid.mk' hsP
      have HSS := Hid.mk' hsS
      have HSO := Hid.mk' hsO
      clear hb1 hbut1 hG1 hg9 hT HBZ hgt hgd hga hlen hsP hsS hsO hb HCE HGR
      go_wp2_with fail
      refine Calls.mono (pick4 (A k).1 W1) ?_
      rintro e W1 ⟨p, rfl, hp, rfl⟩
      rcases (by omega : p = 0 ∨ p = 1 ∨ p = 2 ∨ p = 3) with rfl | rfl | rfl | rfl
      · obtain ⟨ua, un, uc, rfl⟩ := HD.out.sl
        have hun : un = (A k).2.1.length := by
          obtain ⟨ao, cap, e, -⟩ := HD.out.gen
          simp only [Value.slice.injEq] at e
          exact e.2.1
        have c1 : W1.cell? ⟨g9, 1, none⟩ = some (.slice ua un uc) := HA9.out.cell 1
        have HB1 : Hid (Bs W1 (.slice ua un uc) (A k).2.1) := HD.out.but HG.out (fun _ _ _ h => h)
        have HOF := Hid.mk' (refOf_any HB1.out (by have := HSMK.out.1; omega))
        obtain ⟨D, hD⟩ : ∃ D, D = digest (A k).2.1 := ⟨_, rfl⟩
        have HDW : Hid (wf32 D) := by show wf32 _; rw [hD]; exact digest_wf _
        have HDE := Hid.mk' hD
        rw [← hD] at HOF
        obtain ⟨N, hN⟩ : ∃ N, N = (u8s D).toArray := ⟨_, rfl⟩
        have HNE := Hid.mk' hN
        obtain ⟨Z2, hZ2⟩ : ∃ Z, Z = u8s z32 := ⟨_, rfl⟩
        have hz2 := z32v
        rw [← hZ2] at hz2
        have HZ2L : Hid (Z2.length = 32) := by show _ = _; rw [hZ2]; rfl
        have HUN := Hid.mk' hun
        clear c0 hp hN hD hZ2 hun
        go_wp2_with fail
        refine Calls.mono HOF.out ?_
        rintro e w2 ⟨rfl, hg2⟩
        have HBZ : Hid (Blk (w2.alloc (.cells Z2.toArray 35)) w2.heap.size 35 Z2) := Blk.new rfl
        have HG2 := Hid.mk' hg2
        clear hg2 c1
        go_upto_region 13 with (first
          | (refine wpList_store_u8s i32 rfl _ _ rfl w2.heap.size D HDW.out.1 rfl rfl Z2 HZ2L.out HBZ.out ?_; intro w7 hb7 hbut7)
          | fail)
        obtain ⟨g7, hg7⟩ : ∃ g, g = w2.heap.size := ⟨_, rfl⟩
        rw [← hg7] at hb7 hbut7 ⊢
        have hG7 : Grow w2 w7 := ((But.refl _ w2).alloc _).then hbut7 (fun i hi e => by omega)
        have hG17 := HG2.out.trans hG7
        have HT7 := Hid.mk' (HT1.out.then hG17)
        have HA7 := Hid.mk' (HA9.out.but hG17 (fun h => h))
        have HB7 := Hid.mk' hb7
        have HO7 : Hid (own g7 = .none) := HT1.out.log.lg.top g7 (by have := HG2.out.size; omega)
        have HR7 : Hid (ro g7 = .none) := HT1.out.ref.top g7 (by have := HG2.out.size; omega)
        have HW17 := Hid.mk' (HG.out.trans hG17)
        have HBS : Hid (Bs w7 (.slice ua un uc) (A k).2.1) := HB1.out.but hG17 (fun _ _ _ h => h)
        have c1 : w7.cell? ⟨g9, 1, none⟩ = some (.slice ua un uc) := HA7.out.cell 1
        obtain ⟨m, hm⟩ : ∃ m, m = un / 2 := ⟨_, rfl⟩
        have hq2 : Int.tdiv (un : Int) 2 = (m : Int) := by rw [hm]; exact (Int.ofNat_tdiv un 2).symm
        have HM : Hid (m ≤ (A k).2.1.length) := by show _ ≤ _; rw [← HUN.out]; omega
        obtain ⟨pa, qa, hpa, hqa, hbp, hbq⟩ := HBS.out.halve HM.out
        have hm1 : (m : Int) ≤ 10000 := by have := HM.out; have := HSMK.out.1; omega
        have hun1 : (un : Int) ≤ 10000 := by have := HUN.out; have := HSMK.out.1; omega
        have HPA := Hid.mk' hpa
        have HQA := Hid.mk' hqa
        have HBP := Hid.mk' hbp
        have HBQ := Hid.mk' hbq
        have heq : ∀ w', (Op.equalIn 10000 35 (.agg N) (.agg N)).run Tryd.prog w' = .ok true w' := fun w' => by
          have := equalN (n := 32) ukt D D HDW.out.1 HDW.out.1 w'
          rw [HNE.out]; simpa using this
        clear hb7 hbut7 hG7 hG17 hg7 HBZ HG2 HT1 HA9 HG HB1 HOF hpa hqa hbp hbq hm
        rw [← HNE.out]
        go_upto_region 14 with fail
        clear c1 hq2
        have HKW : Hid (∀ w', Grow w7 w' → Kw w' ∧ Hw w') := fun w' h => ⟨(HK.out.but HW17.out (fun h => h)).but h (fun h => h), (HH.out.but HW17.out (fun h => h)).but h (fun h => h)⟩
        have HFL : Hid (([(A k).2.1.take m, (A k).2.1.drop m] : List (List Nat)).flatten = (A k).2.1) := by show _ = _; simp
        refine region_chain [([0, 1, 2, 3, 4, 5, 6, 7, 8, 9, 10, 13], 11), ([], 12)] [14, 15, 16] (But (fun b => own b ≠ .none) w7) (Grow w7) (by kernel_rfl) (by kernel_rfl) (fun _ _ h k => h.trans k) (fun _ h => h.mono (fun _ _ h => h.elim)) ((But.refl _ w7).drew) ?_
        intro ι hne X hX
        have c3 : ∀ x, (X x).cell? ⟨g9, 1, none⟩ = some (.slice ua un uc) := fun x => (HA7.out.but (hX x) (fun e => e HO9.out)).cell 1
        iterate 6 (refine still_step rfl (fun K hK => ?_); go_simp; refine hK _ ?_; clear hK K)
        refine still_val rfl pa rfl (fun x => exec_slc rfl rfl rfl rfl (HPA.out _)) ?_
        intro K hK; go_simp; refine hK _ ?_; clear hK K
        iterate 3 (refine still_step rfl (fun K hK => ?_); go_simp; refine hK _ ?_; clear hK K)
        refine still_val rfl qa rfl (fun x => exec_slc rfl rfl rfl rfl (HQA.out _)) ?_
        intro K hK; go_simp; refine hK _ ?_; clear hK K
        refine still_val rfl (.agg N) rfl (fun x => by rw [HNE.out]; exact run_load_arr ukt i32 (HB7.out.but (hX x) (fun e => e HO7.out)).cells0 HDW.out.1 rfl rfl) ?_
        intro K hK; go_simp; refine hK _ ?_; clear hK K
        refine still_nil ?_
        clear c3 hX hne
        refine turn_run rfl rfl (fun v w' => Grow w7 w' ∧ ∃ g, v = .slice (some ⟨g, 0, none⟩) 2 2 ∧ Blk w' g 31 [pa, qa]) (fun _ => But (fun b => own b ≠ .none) w7) ?_ (fun _ _ h => h.1.mono (fun _ _ h => h.elim)) (.inr (fun _ _ h => h)) ?_ ?_
        · rintro v w4 w5 ⟨h1, g, h2, h3⟩ k
          exact ⟨h1.trans k, g, h2, h3.but k (fun h => h)⟩
        · intro w4 h4
          refine turn_row2 (v := pa) (u := qa) Tryd.underlying54 infS (by decide) (by decide) rfl rfl rfl (by rw [HBP.out.cs]; rfl) (by rw [HBQ.out.cs]; rfl) ⟨h4.trans ((But.refl _ w4).alloc _), _, rfl, ?_⟩
          rw [HBP.out.cs, HBQ.out.cs]
          exact Blk.new rfl
        · rintro v ⟨wq, -, gn, rfl, -⟩ Y hY
          clear wq
          go_simp
          refine hY _ ?_
          clear hY Y
          intro ι hne X hX
          refine still_nil ?_
          clear hX hne
          refine turn_call rfl rfl (fun v w' => v = .agg N ∧ LgTo w7 own gl (LP.map (fun e : PE => e.1) ++ [((A k).2.1, D)]) (LS.map (fun e : TE => e.1)) (LO.map (fun e : TE => e.1)) w') (fun _ => But (fun b => own b ≠ .none) w7) (fun _ w1 w2 h k => ⟨h.1, h.2.grow k⟩) (fun _ _ h => h.2.but) (.inr (fun _ _ h => h)) 23 #[.pointer (some ⟨gl, 0, none⟩), .slice (some ⟨gn, 0, none⟩) 2 2] (fun _ => by kernel_rfl) ?_ ?_
          · rintro w4 ⟨h1, g', e9, h2⟩
            cases e9
            have hlg := (HT7.out.then h1).log.lg
            have hps : Ps w4 (.slice (some ⟨gn, 0, none⟩) 2 2) [(A k).2.1.take m, (A k).2.1.drop m] := ps2 h2 (HBP.out.but h1 (fun _ _ _ h => h)) (HBQ.out.but h1 (fun _ _ _ h => h))
            have hnt := hash_any hlg hps (HKW.out _ h1).1 (HKW.out _ h1).2 (by rw [HFL.out]; have := HSMK.out.1; omega) (by simp) (by simp) (fun ao n c e => by cases e; exact Nat.le_refl _) (by rw [List.length_map]; have := HLEN.out.1; omega)
            rw [HFL.out, ← HDE.out, show dkey D = .agg N by rw [HNE.out]; rfl] at hnt
            refine hnt.mono ?_
            rintro e w5 ⟨rfl, h4⟩
            exact ⟨_, rfl, rfl, h4.from h1 (fun _ _ h => h.elim)⟩
          · rintro v9 ⟨wq, rfl, -⟩ Y hY
            clear wq
            go_simp
            refine hY _ ?_
            clear hY Y
            intro ι hne X hX
            iterate 3 (refine still_step rfl (fun K hK => ?_); go_simp; refine hK _ ?_; clear hK K)
            refine still_nil ?_
            clear hX hne
            rintro w3 ⟨-, hto⟩
            obtain ⟨own3, hT3, hsame⟩ := HT7.out.to hto
            have HT3 := Hid.mk' hT3
            have HA3 := Hid.mk' (HA7.out.but hto.but (fun h => h HO9.out))
            have HB3 := Hid.mk' (HB7.out.but hto.but (fun h => h HO7.out))
            have HBV3 : Hid (Bf w3 (· < w.heap.size) (.slice ua un uc) (A k).2.1) := HD.out.bf.but hT3.log.grow (fun _ _ h => h)
            clear hT3 hsame hto HT7 HA7 HB7 heq
            go_upto_region 15 with fail
            have HNX : Hid (¬ vp.ownBlock = some gx) := fun e => by
              have h1 : ro gx = .cla := HT3.out.ref.prs.row.inF gx e
              rw [HT3.out.ref.tag] at h1
              cases h1
            have HN9 : Hid (¬ vp.ownBlock = some g9) := fun e => by
              have h1 : ro g9 = .cla := HT3.out.ref.prs.row.inF g9 e
              rw [HR9.out] at h1
              cases h1
            have HN7 : Hid (¬ vp.ownBlock = some g7) := fun e => by
              have h1 : ro g7 = .cla := HT3.out.ref.prs.row.inF g7 e
              rw [HR7.out] at h1
              cases h1
            have HPL1 : Hid ((pc (((A k).2.1, D), (.slice ua un uc : Value))).length = 33) := pc_len' HDW.out.1
            have HONE : Hid (∀ u ∈ pc (((A k).2.1, D), (.slice ua un uc : Value)), u.oneCell' = true) := pc_one rfl
            have HVO : Hid (vp.oneCell' = true) := ownsRow_one HT3.out.ref.prs.row.own
            have HBB := Hid.mk' (build_pair (xs := (A k).2.1) HDW.out.1 ua un uc)
            obtain ⟨B, hB⟩ : ∃ B, B = (pc (((A k).2.1, D), (.slice ua un uc : Value))).toArray := ⟨_, rfl⟩
            rw [← hB, ← HNE.out] at HBB
            have HBE := Hid.mk' hB
            clear hB
            refine region_chain [([0, 1, 2, 3, 4, 5, 6, 7, 8], 9), ([], 10), ([11, 12], 13)] [] (But (fun b => vp.ownBlock = some b) w3) (Grow w3) (by kernel_rfl) (by kernel_rfl) (fun _ _ h k => h.trans k) (fun _ h => h.mono (fun _ _ h => h.elim)) ((But.refl _ w3).drew) ?_
            intro ι hne X hX
            have c2 : ∀ x, (X x).cell? ⟨gx, 0, none⟩ = some vp := fun x => (HT3.out.ref.blk.but (hX x) HNX.out).cell 0
            have c3 : ∀ x, (X x).cell? ⟨g9, 1, none⟩ = some (.slice ua un uc) := fun x => (HA3.out.but (hX x) HN9.out).cell 1
            iterate 7 (refine still_step rfl (fun K hK => ?_); go_simp; refine hK _ ?_; clear hK K)
            refine still_val rfl (.agg N) rfl (fun x => by rw [HNE.out]; exact run_load_arr ukt i32 (HB3.out.but (hX x) HN7.out).cells0 HDW.out.1 rfl rfl) ?_
            intro K hK; go_simp; refine hK _ ?_; clear hK K
            refine still_val rfl (.agg B) rfl (fun x => exec_build _ [_, _] rfl [(0, .slice ua un uc), (1, .agg N)] rfl _ (HBB.out _)) ?_
            intro K hK; go_simp; refine hK _ ?_; clear hK K
            refine still_nil ?_
            clear c2 c3 hX hne
            refine turn_run rfl rfl (fun v w' => Grow w3 w' ∧ ∃ g, v = .slice (some ⟨g, 0, none⟩) 1 1 ∧ Blk w' g 37 (pc (((A k).2.1, D), .slice ua un uc))) (fun _ => But (fun b => vp.ownBlock = some b) w3) ?_ (fun _ _ h => h.1.mono (fun _ _ h => h.elim)) (.inr (fun _ _ h => h)) ?_ ?_
            · rintro v w4 w5 ⟨h1, g, h2, h3⟩ k
              exact ⟨h1.trans k, g, h2, h3.but k (fun h => h)⟩
            · intro w4 h4
              refine turn_row1 (v := .agg B) Tryd.underlying38 infP (by decide) (by decide) rfl rfl (by rw [HBE.out]; show (pc (((A k).2.1, D), (.slice ua un uc : Value))).toArray.size = 33; simpa using HPL1.out) ⟨h4.trans ((But.refl _ w4).alloc _), _, rfl, ?_⟩
              rw [HBE.out]
              exact Blk.new rfl
            · rintro v ⟨wq, -, gn, rfl, -⟩ Y hY
              clear wq
              go_simp
              refine hY _ ?_
              clear hY Y
              intro ι hne X hX
              refine still_nil ?_
              clear hX hne
              refine turn_run rfl rfl (fun v w' => But (fun b => vp.ownBlock = some b) w3 w' ∧ w'.ownsRow 0 37 33 v (LP.length + 1) (LP.flatMap pc ++ pc (((A k).2.1, D), .slice ua un uc)) ∧ (∀ k, v.ownBlock = some k → vp.ownBlock = some k ∨ w3.heap.size ≤ k) ∧ (∀ k, v.ownBlock = some k → k < w'.heap.size)) (fun _ => But (fun b => vp.ownBlock = some b) w3) ?_ (fun _ _ h => h.1) (.inr (fun _ _ h => h)) ?_ ?_
              · rintro v w4 w5 ⟨h1, h2, h3, h4⟩ k
                exact ⟨h1.trans (k.mono (fun _ _ h => h.elim)), ownsRow_grow h2 k, h3, fun j hj => Nat.lt_of_lt_of_le (h4 j hj) k.size⟩
              · rintro w4 ⟨h1, g', e9, h2⟩
                cases e9
                refine turn_append (v := vp) (news := pc (((A k).2.1, D), .slice ua un uc)) Tryd.underlying38 infP rfl (by decide) rfl rfl (ownsRow_grow HT3.out.ref.prs.row.own h1) rfl (by rw [HPL1.out]) (fun j u hj => h2.cells0 j u hj) HONE.out (by have := HLEN.out; omega) (by decide) ?_
                intro v' w5 ha
                refine ⟨(h1.mono (fun _ _ h => h.elim)).trans ha.but, ha.own, fun j hj => ?_, ha.lt⟩
                rcases ha.at' with e | e
                · exact .inl (by rw [← e]; exact hj)
                · rw [e] at hj
                  cases hj
                  exact .inr h1.size
              · rintro v2 ⟨wq, -, hov, -⟩ Y hY
                have HV2 : Hid (v2.oneCell' = true) := ownsRow_one hov
                clear hov wq
                go_simp
                refine hY _ ?_
                clear hY Y
                intro ι hne X hX
                iterate 2 (refine still_step rfl (fun K hK => ?_); go_simp; refine hK _ ?_; clear hK K)
                refine still_nil ?_
                clear hX hne
                refine turn_run rfl rfl (fun _ w' => But (fun b => vp.ownBlock = some b ∨ b = gx) w3 w' ∧ w'.ownsRow 0 37 33 v2 (LP.length + 1) (LP.flatMap pc ++ pc (((A k).2.1, D), .slice ua un uc)) ∧ (∀ k, v2.ownBlock = some k → vp.ownBlock = some k ∨ w3.heap.size ≤ k) ∧ (∀ k, v2.ownBlock = some k → k < w'.heap.size) ∧ Blk w' gx 41 [v2, vs, vo]) (fun _ => But (fun b => vp.ownBlock = some b ∨ b = gx) w3) ?_ (fun _ _ h => h.1) (.inl (by kernel_rfl)) ?_ ?_
                · rintro v w4 w5 ⟨h1, h2, h3, h4, h5⟩ k
                  exact ⟨h1.trans (k.mono (fun _ _ h => h.elim)), ownsRow_grow h2 k, h3, fun j hj => Nat.lt_of_lt_of_le (h4 j hj) k.size, h5.but k (fun h => h)⟩
                · rintro w4 ⟨h1, h2, h3, h4⟩
                  have hbk := HT3.out.ref.blk.but h1 HNX.out
                  have hne2 : ¬ v2.ownBlock = some gx := fun e => by
                    rcases h3 gx e with h | h
                    · exact HNX.out h
                    · have := HT3.out.ref.blk.lt; omega
                  refine turn_store (by kernel_rfl) rfl rfl rfl HV2.out hbk (by simp) ⟨(h1.mono (fun _ _ h => .inl h)).trans ((But.set1 _ _ _ _).mono (fun _ _ h => .inr h)), ownsRow_but h2 (But.set1 _ _ _ _) (fun j hj e => hne2 (by rw [← e]; exact hj)), h3, fun j hj => by have := h4 j hj; simpa using this, hbk.set 0 v2⟩
                · rintro v5 - Y hY
                  go_simp
                  refine hY _ ?_
                  clear hY Y
                  intro ι hne X hX
                  refine still_nil ?_
                  clear hX hne
                  rintro w5 ⟨h1, h2, h3, h4, h5⟩
                  obtain ⟨ro5, hf5, hr5⟩ := HT3.out.ref.addP (e := (((A k).2.1, D), .slice ua un uc)) HT3.out.log.grow.size h1 h2 h3 h4 h5 (HBV3.out.but h1 (fun j hj e => by
                    rcases e with e | e
                    · have := HT3.out.ref.new j (by rw [show ro j = _ from HT3.out.ref.prs.row.inF j e]; decide); omega
                    · have := HT3.out.ref.new j (by rw [e, HT3.out.ref.tag]; decide); omega)) HDW.out
                  have hT5 := HT3.out.turn (h1.mono (fun b _ e => by
                    rcases e with e | e
                    · rw [show ro b = _ from HT3.out.ref.prs.row.inF b e]; decide
                    · rw [e, HT3.out.ref.tag]; decide)) hf5 hr5
                  have HPN : Hid (PlayS w w5 gl gx (k + 1)) := by
                    refine ⟨own3, ro5, v2, vs, vo, LP ++ [(((A k).2.1, D), .slice ua un uc)], LS, LO, ?_, ⟨by rw [List.length_append, List.length_singleton]; have := HLEN.out.1; omega, by have := HLEN.out.2.1; omega, by have := HLEN.out.2.2; omega⟩, fun e he => ?_, HSS.out, HSO.out⟩
                    · simpa using hT5
                    · rcases List.mem_append.1 he with he | he
                      · exact HSP.out e he
                      · rw [show e = (((A k).2.1, D), .slice ua un uc) by simpa using he]; exact HSMK.out.1
                  clear h1 h2 h3 h4 h5 hf5 hr5 hT5
                  go_wp2
                  exact ⟨⟨k + 1, by omega, by omega, by go_num, rfl, HPN.out⟩, by simp [intOf]; omega⟩
      · have HDT : Hid (∀ w', Blk w' g9 59 (gcells (A k) ud va vz) → ∀ c u, (u8s (A k).2.2.1)[c]? = some u → w'.cell? ((⟨g9, 2, none⟩ : Addr).add c) = some u) := fun w' hw c u hcu => by
          rw [addr_add, hw.cell]
          exact gcells_d hcu
        obtain ⟨ua, un, uc, rfl⟩ := HD.out.sl
        have HDW : Hid (wf32 (A k).2.2.1) := HGA.out.dg
        obtain ⟨N, hN⟩ : ∃ N, N = (u8s (A k).2.2.1).toArray := ⟨_, rfl⟩
        have HNE := Hid.mk' hN
        have c1 : W1.cell? ⟨g9, 1, none⟩ = some (.slice ua un uc) := HA9.out.cell 1
        have HCP := Hid.mk' (copy_any (HD.out.but HG.out (fun _ _ _ h => h)) (by have := HSMK.out.1; omega))
        clear c0 hp hN
        go_wp2_with fail
        refine Calls.mono HCP.out ?_
        rintro e w2 ⟨v1, rfl, how, hbl⟩
        have hg2 : Grow W1 w2 := But.of hbl
        obtain ⟨ca, cn, cc, rfl⟩ := how.bs.sl
        have HF2 : Hid (Bf w2 (Is own .none) (.slice ca cn cc) (A k).2.1) := ⟨how.bs, fun _ j hj => HT1.out.log.lg.top j (how.ge j hj).1⟩
        have HOW2 := Hid.mk' how
        have HT2 := Hid.mk' (HT1.out.then hg2)
        have HA2 := Hid.mk' (HA9.out.but hg2 (fun h => h))
        have HCN : Hid (∀ j, (.slice ca cn cc : Value).ownBlock = some j → own j = .none ∧ ro j = .none ∧ w.heap.size ≤ j ∧ j ≠ g9 ∧ j < w2.heap.size) := fun j hj => by
          have h1 := how.ge j hj
          have h2 := HT1.out.log.grow.size
          have h3 := HA9.out.lt
          exact ⟨HT1.out.log.lg.top j h1.1, HT1.out.ref.top j h1.1, by omega, by omega, h1.2⟩
        have HCALL := Hid.mk' (note_any HT2.out.log.lg HF2.out (by have := HSMK.out.1; omega) HDW.out (by rw [List.length_map]; have := HLEN.out.1; omega))
        rw [show dkey (A k).2.2.1 = .agg N by rw [HNE.out]; rfl] at HCALL
        obtain ⟨hcn, hcn2⟩ : cn = (A k).2.1.length ∧ 0 ≤ cn := by
          rcases how.shape with ⟨e, e2⟩ | ⟨g, cap, e, -⟩
          · simp only [Value.slice.injEq] at e; rw [e2]; exact ⟨e.2.1, Nat.zero_le _⟩
          · simp only [Value.slice.injEq] at e; exact ⟨e.2.1, Nat.zero_le _⟩
        have HCL := Hid.mk' hcn
        have hcb : cn ≤ 10000 := by have := HSMK.out.1; omega
        clear how hbl hg2 HCP HA9 HG HF2 c1 hcn hcn2
        go_wp2_with (first
          | (refine wpList_load_cells rfl _ _ rfl ⟨g9, 2, none⟩ rfl (u8s (A k).2.2.1) _ (HDT.out _ HA2.out) ukt rfl (by rw [i32]; simp [u8s, HDW.out.1]) ?_; rw [← HNE.out])
          | fail)
        refine Calls.mono HCALL.out ?_
        rintro e w8 ⟨rfl, hto⟩
        obtain ⟨own3, hT3, hsame⟩ := HT2.out.to hto
        have HT8 := Hid.mk' hT3
        have HA8 := Hid.mk' (HA2.out.but hto.but (fun h => h HO9.out))
        have HO8 : Hid (Ow w8 W1.heap.size (.slice ca cn cc) (A k).2.1) := HOW2.out.but hto.but (fun j hj _ e => e (HCN.out j hj).1)
        have HC3 : Hid (∀ j, (.slice ca cn cc : Value).ownBlock = some j → own3 j = .none ∧ ro j = .none ∧ w.heap.size ≤ j ∧ j ≠ g9) := fun j hj => by
          have h1 := HCN.out j hj
          exact ⟨by rw [hsame j h1.2.2.2.2]; exact h1.1, h1.2.1, h1.2.2.1, h1.2.2.2.1⟩
        clear hT3 hsame hto HCALL HA2 HT2 HOW2 HCN
        go_wp2
        go_loopw [13] (fun iv wr => ∃ (j : Nat) (zs : List Nat), j ≤ cn ∧ iv = .int .i64 j ∧ zs.length = cn ∧ Ow wr W1.heap.size (.slice ca cn cc) zs ∧ But (fun b => (.slice ca cn cc : Value).ownBlock = some b) w8 wr) (fun iv _ => cn - (intOf iv).toNat)
        case atStart => exact ⟨0, (A k).2.1, Nat.zero_le _, rfl, HCL.out.symm, HO8.out, But.refl _ _⟩
        case round =>
          obtain ⟨j, zs, hj, rfl, hzl, how, hbt⟩ := hrel
          have HZ := Hid.mk' how
          have HBT := Hid.mk' hbt
          have HZL2 := Hid.mk' hzl
          clear how hbt hzl
          by_cases hlt2 : j < cn
          · have hlj : (j : Int) < (cn : Int) := by omega
            obtain ⟨gc, cap, R, e, hge, hb, hR, hc, hm⟩ := HZ.out.opn (by rw [HZL2.out]; omega)
            simp only [Value.slice.injEq] at e
            obtain ⟨rfl, -, rfl⟩ := e
            have hzj : zs.getD j 0 < 256 := HZ.out.lt _ (getD_mem zs j (by rw [HZL2.out]; omega))
            obtain ⟨z, hz⟩ : ∃ z, z = zs.getD j 0 := ⟨_, rfl⟩
            rw [← hz] at hzj
            have cj : wr.cell? ⟨gc, j, none⟩ = some (.int .u8 (z : Int)) := by
              rw [hb.cell, List.getElem?_append_left (by simp [u8s, HZL2.out]; omega), u8s_get zs j (by rw [HZL2.out]; omega), hz]
            have fj : wr.frozen? ⟨gc, j, none⟩ = false := hb.free j
            have hw1 : IntKind.u8.wrap ((z : Int) + 1) = (((z + 1) % 256 : Nat) : Int) := u8_next z hzj
            obtain ⟨y, hy⟩ : ∃ y, y = (z + 1) % 256 := ⟨_, rfl⟩
            have HY : Hid (y < 256) := by show _ < _; omega
            rw [← hy] at hw1
            clear hb hge hR hc hm hz hzj hy
            go_wp2
            refine ⟨⟨j + 1, zs.set j y, by omega, by go_num, by rw [List.length_set]; exact HZL2.out, HZ.out.setA HZL2.out (by rw [HZL2.out]; exact hlt2) HY.out, HBT.out.trans ((But.set1 _ _ _ _).mono (fun b _ e => by rw [e]; rfl))⟩, by simp [intOf]; omega⟩
          · have hlj : ¬ ((j : Int) < (cn : Int)) := by omega
            have HT3 := Hid.mk' (HT8.out.but HBT.out (fun b e => ⟨(HC3.out b e).1, (HC3.out b e).2.1, (HC3.out b e).2.2.1⟩))
            have HA3 := Hid.mk' (HA8.out.but HBT.out (fun e => (HC3.out g9 e).2.2.2 rfl))
            obtain ⟨w3, hw3⟩ : ∃ w3, w3 = wr := ⟨_, rfl⟩
            rw [← hw3] at HT3 HA3 ⊢
            have HBV3 : Hid (Bf w3 (· < w.heap.size) (.slice ua un uc) (A k).2.1) := HD.out.bf.but HT3.out.log.grow (fun _ _ h => h)
            clear hw3 HT8 HA8 HBT HZ
            go_upto_region 23 with fail
            have HNX : Hid (¬ vp.ownBlock = some gx) := fun e => by
              have h1 : ro gx = .cla := HT3.out.ref.prs.row.inF gx e
              rw [HT3.out.ref.tag] at h1
              cases h1
            have HN9 : Hid (¬ vp.ownBlock = some g9) := fun e => by
              have h1 : ro g9 = .cla := HT3.out.ref.prs.row.inF g9 e
              rw [HR9.out] at h1
              cases h1
            have HPL1 : Hid ((pc (((A k).2.1, (A k).2.2.1), (.slice ua un uc : Value))).length = 33) := pc_len' HDW.out.1
            have HONE : Hid (∀ u ∈ pc (((A k).2.1, (A k).2.2.1), (.slice ua un uc : Value)), u.oneCell' = true) := pc_one rfl
            have HVO : Hid (vp.oneCell' = true) := ownsRow_one HT3.out.ref.prs.row.own
            have HBB := Hid.mk' (build_pair (xs := (A k).2.1) HDW.out.1 ua un uc)
            obtain ⟨B, hB⟩ : ∃ B, B = (pc (((A k).2.1, (A k).2.2.1), (.slice ua un uc : Value))).toArray := ⟨_, rfl⟩
            rw [← hB, ← HNE.out] at HBB
            have HBE := Hid.mk' hB
            clear hB
            refine region_chain [([0, 1, 2, 3, 4, 5, 6, 7, 8, 9], 10), ([], 11), ([12, 13], 14)] [] (But (fun b => vp.ownBlock = some b) w3) (Grow w3) (by kernel_rfl) (by kernel_rfl) (fun _ _ h k => h.trans k) (fun _ h => h.mono (fun _ _ h => h.elim)) ((But.refl _ w3).drew) ?_
            intro ι hne X hX
            have c2 : ∀ x, (X x).cell? ⟨gx, 0, none⟩ = some vp := fun x => (HT3.out.ref.blk.but (hX x) HNX.out).cell 0
            have c3 : ∀ x, (X x).cell? ⟨g9, 1, none⟩ = some (.slice ua un uc) := fun x => (HA3.out.but (hX x) HN9.out).cell 1
            iterate 8 (refine still_step rfl (fun K hK => ?_); go_simp; refine hK _ ?_; clear hK K)
            refine still_val rfl (.agg N) rfl (fun x => by rw [HNE.out]; exact run_load_arr ukt i32 (HDT.out _ (HA3.out.but (hX x) HN9.out)) HDW.out.1 rfl rfl) ?_
            intro K hK; go_simp; refine hK _ ?_; clear hK K
            refine still_val rfl (.agg B) rfl (fun x => exec_build _ [_, _] rfl [(0, .slice ua un uc), (1, .agg N)] rfl _ (HBB.out _)) ?_
            intro K hK; go_simp; refine hK _ ?_; clear hK K
            refine still_nil ?_
            clear c2 c3 hX hne
            refine turn_run rfl rfl (fun v w' => Grow w3 w' ∧ ∃ g, v = .slice (some ⟨g, 0, none⟩) 1 1 ∧ Blk w' g 37 (pc (((A k).2.1, (A k).2.2.1), .slice ua un uc))) (fun _ => But (fun b => vp.ownBlock = some b) w3) ?_ (fun _ _ h => h.1.mono (fun _ _ h => h.elim)) (.inr (fun _ _ h => h)) ?_ ?_
            · rintro v w4 w5 ⟨h1, g, h2, h3⟩ k
              exact ⟨h1.trans k, g, h2, h3.but k (fun h => h)⟩
            · intro w4 h4
              refine turn_row1 (v := .agg B) Tryd.underlying38 infP (by decide) (by decide) rfl rfl (by rw [HBE.out]; show (pc (((A k).2.1, (A k).2.2.1), (.slice ua un uc : Value))).toArray.size = 33; simpa using HPL1.out) ⟨h4.trans ((But.refl _ w4).alloc _), _, rfl, ?_⟩
              rw [HBE.out]
              exact Blk.new rfl
            · rintro v ⟨wq, -, gn, rfl, -⟩ Y hY
              clear wq
              go_simp
              refine hY _ ?_
              clear hY Y
              intro ι hne X hX
              refine still_nil ?_
              clear hX hne
              refine turn_run rfl rfl (fun v w' => But (fun b => vp.ownBlock = some b) w3 w' ∧ w'.ownsRow 0 37 33 v (LP.length + 1) (LP.flatMap pc ++ pc (((A k).2.1, (A k).2.2.1), .slice ua un uc)) ∧ (∀ k, v.ownBlock = some k → vp.ownBlock = some k ∨ w3.heap.size ≤ k) ∧ (∀ k, v.ownBlock = some k → k < w'.heap.size)) (fun _ => But (fun b => vp.ownBlock = some b) w3) ?_ (fun _ _ h => h.1) (.inr (fun _ _ h => h)) ?_ ?_
              · rintro v w4 w5 ⟨h1, h2, h3, h4⟩ k
                exact ⟨h1.trans (k.mono (fun _ _ h => h.elim)), ownsRow_grow h2 k, h3, fun j hj => Nat.lt_of_lt_of_le (h4 j hj) k.size⟩
              · rintro w4 ⟨h1, g', e9, h2⟩
                cases e9
                refine turn_append (v := vp) (news := pc (((A k).2.1, (A k).2.2.1), .slice ua un uc)) Tryd.underlying38 infP rfl (by decide) rfl rfl (ownsRow_grow HT3.out.ref.prs.row.own h1) rfl (by rw [HPL1.out]) (fun j u hj => h2.cells0 j u hj) HONE.out (by have := HLEN.out; omega) (by decide) ?_
                intro v' w5 ha
                refine ⟨(h1.mono (fun _ _ h => h.elim)).trans ha.but, ha.own, fun j hj => ?_, ha.lt⟩
                rcases ha.at' with e | e
                · exact .inl (by rw [← e]; exact hj)
                · rw [e] at hj
                  cases hj
                  exact .inr h1.size
              · rintro v2 ⟨wq, -, hov, -⟩ Y hY
                have HV2 : Hid (v2.oneCell' = true) := ownsRow_one hov
                clear hov wq
                go_simp
                refine hY _ ?_
                clear hY Y
                intro ι hne X hX
                iterate 2 (refine still_step rfl (fun K hK => ?_); go_simp; refine hK _ ?_; clear hK K)
                refine still_nil ?_
                clear hX hne
                refine turn_run rfl rfl (fun _ w' => But (fun b => vp.ownBlock = some b ∨ b = gx) w3 w' ∧ w'.ownsRow 0 37 33 v2 (LP.length + 1) (LP.flatMap pc ++ pc (((A k).2.1, (A k).2.2.1), .slice ua un uc)) ∧ (∀ k, v2.ownBlock = some k → vp.ownBlock = some k ∨ w3.heap.size ≤ k) ∧ (∀ k, v2.ownBlock = some k → k < w'.heap.size) ∧ Blk w' gx 41 [v2, vs, vo]) (fun _ => But (fun b => vp.ownBlock = some b ∨ b = gx) w3) ?_ (fun _ _ h => h.1) (.inl (by kernel_rfl)) ?_ ?_
                · rintro v w4 w5 ⟨h1, h2, h3, h4, h5⟩ k
                  exact ⟨h1.trans (k.mono (fun _ _ h => h.elim)), ownsRow_grow h2 k, h3, fun j hj => Nat.lt_of_lt_of_le (h4 j hj) k.size, h5.but k (fun h => h)⟩
                · rintro w4 ⟨h1, h2, h3, h4⟩
                  have hbk := HT3.out.ref.blk.but h1 HNX.out
                  have hne2 : ¬ v2.ownBlock = some gx := fun e => by
                    rcases h3 gx e with h | h
                    · exact HNX.out h
                    · have := HT3.out.ref.blk.lt; omega
                  refine turn_store (by kernel_rfl) rfl rfl rfl HV2.out hbk (by simp) ⟨(h1.mono (fun _ _ h => .inl h)).trans ((But.set1 _ _ _ _).mono (fun _ _ h => .inr h)), ownsRow_but h2 (But.set1 _ _ _ _) (fun j hj e => hne2 (by rw [← e]; exact hj)), h3, fun j hj => by have := h4 j hj; simpa using this, hbk.set 0 v2⟩
                · rintro v5 - Y hY
                  go_simp
                  refine hY _ ?_
                  clear hY Y
                  intro ι hne X hX
                  refine still_nil ?_
                  clear hX hne
                  rintro w5 ⟨h1, h2, h3, h4, h5⟩
                  obtain ⟨ro5, hf5, hr5⟩ := HT3.out.ref.addP (e := (((A k).2.1, (A k).2.2.1), .slice ua un uc)) HT3.out.log.grow.size h1 h2 h3 h4 h5 (HBV3.out.but h1 (fun j hj e => by
                    rcases e with e | e
                    · have := HT3.out.ref.new j (by rw [show ro j = _ from HT3.out.ref.prs.row.inF j e]; decide); omega
                    · have := HT3.out.ref.new j (by rw [e, HT3.out.ref.tag]; decide); omega)) HDW.out
                  have hT5 := HT3.out.turn (h1.mono (fun b _ e => by
                    rcases e with e | e
                    · rw [show ro b = _ from HT3.out.ref.prs.row.inF b e]; decide
                    · rw [e, HT3.out.ref.tag]; decide)) hf5 hr5
                  have HPN : Hid (PlayS w w5 gl gx (k + 1)) := by
                    refine ⟨own3, ro5, v2, vs, vo, LP ++ [(((A k).2.1, (A k).2.2.1), .slice ua un uc)], LS, LO, ?_, ⟨by rw [List.length_append, List.length_singleton]; have := HLEN.out.1; omega, by have := HLEN.out.2.1; omega, by have := HLEN.out.2.2; omega⟩, fun e he => ?_, HSS.out, HSO.out⟩
                    · simpa using hT5
                    · rcases List.mem_append.1 he with he | he
                      · exact HSP.out e he
                      · rw [show e = (((A k).2.1, (A k).2.2.1), .slice ua un uc) by simpa using he]; exact HSMK.out.1
                  clear h1 h2 h3 h4 h5 hf5 hr5 hT5
                  go_wp2
                  exact ⟨⟨k + 1, by omega, by omega, by go_num, rfl, HPN.out⟩, by simp [intOf]; omega⟩
      · have HTT : Hid (∀ w', Blk w' g9 59 (gcells (A k) ud va vz) → ∀ c u, (tcells (A k).2.2.2 va vz)[c]? = some u → w'.cell? ((⟨g9, 34, none⟩ : Addr).add c) = some u) := fun w' hw c u hcu => by
          rw [addr_add, hw.cell]
          exact gcells_t HGA.out.dg.1 hcu
        obtain ⟨B, hB⟩ : ∃ B, B = (tcells (A k).2.2.2 va vz).toArray := ⟨_, rfl⟩
        have HBE := Hid.mk' hB
        have HTL : Hid ((tcells (A k).2.2.2 va vz).length = 15) := tcells_len HTV.out.nl _ _
        have HOW := Hid.mk' (rown_any (HTV.out.but (R := fun _ => False) HG.out (fun _ _ h => h)) (by have := HSMK.out.2.1; omega) (by have := HSMK.out.2.2; omega))
        rw [← hB] at HOW
        clear hB c0 hp
        go_wp2_with (first
          | (refine wpList_load_cells rfl _ _ rfl ⟨g9, 34, none⟩ rfl (tcells (A k).2.2.2 va vz) _ (HTT.out _ HA9.out) Tryd.underlying46 rfl (by rw [iT, HTL.out]) ?_; rw [← HBE.out])
          | fail)
        refine Calls.mono HOW.out ?_
        rintro e w2 ⟨ua, uz, rfl, hnew, hg2⟩
        have HN2 := Hid.mk' (hnew.free HT1.out.log.lg.top (Nat.le_refl _))
        have HT2 := Hid.mk' (HT1.out.then hg2)
        have HA2 := Hid.mk' (HA9.out.but hg2 (fun h => h))
        have HG2 := Hid.mk' (HG.out.trans hg2)
        have HCALL := Hid.mk' (sealed_any HT2.out.log.lg HN2.out (by have := HSMK.out.2.1; omega) (by have := HSMK.out.2.2; omega) (by rw [List.length_map]; have := HLEN.out.2.1; omega))
        obtain ⟨U, hU⟩ : ∃ U, U = (tcells (A k).2.2.2 ua uz).toArray := ⟨_, rfl⟩
        rw [← hU] at HCALL ⊢
        clear hU hnew hg2 HOW HA9 HT1 HG HN2
        go_wp2_with fail
        refine Calls.mono HCALL.out ?_
        rintro e w3 ⟨rfl, hto⟩
        obtain ⟨own3, hT3, -⟩ := HT2.out.to hto
        have HT3 := Hid.mk' hT3
        have HA3 := Hid.mk' (HA2.out.but hto.but (fun h => h HO9.out))
        have HTV3 : Hid (Tv w3 (· < w.heap.size) (A k).2.2.2 va vz) := (HTV.out.but (R := fun _ => False) hT3.log.grow (fun _ _ h => h))
        clear hT3 hto HCALL HA2 HT2 HG2
        go_upto_region 26 with fail
        have HNX : Hid (¬ vs.ownBlock = some gx) := fun e => by
          have h1 : ro gx = .blo := HT3.out.ref.sea.row.inF gx e
          rw [HT3.out.ref.tag] at h1
          cases h1
        have HN9 : Hid (¬ vs.ownBlock = some g9) := fun e => by
          have h1 : ro g9 = .blo := HT3.out.ref.sea.row.inF g9 e
          rw [HR9.out] at h1
          cases h1
        have HONE : Hid (∀ u ∈ tcells (A k).2.2.2 va vz, u.oneCell' = true) := tcells_one HTV3.out.aad.1.one HTV3.out.sea.1.one
        have HVO : Hid (vs.oneCell' = true) := ownsRow_one HT3.out.ref.sea.row.own
        refine region_chain [([0, 1, 2, 3, 4, 5, 6], 7), ([], 8), ([9, 10], 11)] [] (But (fun b => vs.ownBlock = some b) w3) (Grow w3) (by kernel_rfl) (by kernel_rfl) (fun _ _ h k => h.trans k) (fun _ h => h.mono (fun _ _ h => h.elim)) ((But.refl _ w3).drew) ?_
        intro ι hne X hX
        have c2 : ∀ x, (X x).cell? ⟨gx, 1, none⟩ = some vs := fun x => (HT3.out.ref.blk.but (hX x) HNX.out).cell 1
        iterate 6 (refine still_step rfl (fun K hK => ?_); go_simp; refine hK _ ?_; clear hK K)
        refine still_val rfl (.agg B) rfl (fun x => by rw [HBE.out]; exact run_load_tup (HTT.out _ (HA3.out.but (hX x) HN9.out)) HTL.out rfl rfl) ?_
        intro K hK; go_simp; refine hK _ ?_; clear hK K
        refine still_nil ?_
        clear c2 hX hne
        refine turn_run rfl rfl (fun v w' => Grow w3 w' ∧ ∃ g, v = .slice (some ⟨g, 0, none⟩) 1 1 ∧ Blk w' g 46 (tcells (A k).2.2.2 va vz)) (fun _ => But (fun b => vs.ownBlock = some b) w3) ?_ (fun _ _ h => h.1.mono (fun _ _ h => h.elim)) (.inr (fun _ _ h => h)) ?_ ?_
        · rintro v w4 w5 ⟨h1, g, h2, h3⟩ k
          exact ⟨h1.trans k, g, h2, h3.but k (fun h => h)⟩
        · intro w4 h4
          refine turn_row1 (v := .agg B) Tryd.underlying39 infT (by decide) (by decide) rfl rfl (by rw [HBE.out]; show (tcells (A k).2.2.2 va vz).toArray.size = 15; simpa using HTL.out) ⟨h4.trans ((But.refl _ w4).alloc _), _, rfl, ?_⟩
          rw [HBE.out]
          exact Blk.new rfl
        · rintro v ⟨wq, -, gn, rfl, -⟩ Y hY
          clear wq
          go_simp
          refine hY _ ?_
          clear hY Y
          intro ι hne X hX
          refine still_nil ?_
          clear hX hne
          refine turn_run rfl rfl (fun v w' => But (fun b => vs.ownBlock = some b) w3 w' ∧ w'.ownsRow 0 46 15 v (LS.length + 1) (LS.flatMap tc ++ tcells (A k).2.2.2 va vz) ∧ (∀ k, v.ownBlock = some k → vs.ownBlock = some k ∨ w3.heap.size ≤ k) ∧ (∀ k, v.ownBlock = some k → k < w'.heap.size)) (fun _ => But (fun b => vs.ownBlock = some b) w3) ?_ (fun _ _ h => h.1) (.inr (fun _ _ h => h)) ?_ ?_
          · rintro v w4 w5 ⟨h1, h2, h3, h4⟩ k
            exact ⟨h1.trans (k.mono (fun _ _ h => h.elim)), ownsRow_grow h2 k, h3, fun j hj => Nat.lt_of_lt_of_le (h4 j hj) k.size⟩
          · rintro w4 ⟨h1, g', e9, h2⟩
            cases e9
            refine turn_append (v := vs) (news := tcells (A k).2.2.2 va vz) Tryd.underlying39 infT rfl (by decide) rfl rfl (ownsRow_grow HT3.out.ref.sea.row.own h1) rfl (by rw [HTL.out]) (fun j u hj => h2.cells0 j u hj) HONE.out (by have := HLEN.out; omega) (by decide) ?_
            intro v' w5 ha
            refine ⟨(h1.mono (fun _ _ h => h.elim)).trans ha.but, ha.own, fun j hj => ?_, ha.lt⟩
            rcases ha.at' with e | e
            · exact .inl (by rw [← e]; exact hj)
            · rw [e] at hj
              cases hj
              exact .inr h1.size
          · rintro v2 ⟨wq, -, hov, -⟩ Y hY
            have HV2 : Hid (v2.oneCell' = true) := ownsRow_one hov
            clear hov wq
            go_simp
            refine hY _ ?_
            clear hY Y
            intro ι hne X hX
            iterate 2 (refine still_step rfl (fun K hK => ?_); go_simp; refine hK _ ?_; clear hK K)
            refine still_nil ?_
            clear hX hne
            refine turn_run rfl rfl (fun _ w' => But (fun b => vs.ownBlock = some b ∨ b = gx) w3 w' ∧ w'.ownsRow 0 46 15 v2 (LS.length + 1) (LS.flatMap tc ++ tcells (A k).2.2.2 va vz) ∧ (∀ k, v2.ownBlock = some k → vs.ownBlock = some k ∨ w3.heap.size ≤ k) ∧ (∀ k, v2.ownBlock = some k → k < w'.heap.size) ∧ Blk w' gx 41 [vp, v2, vo]) (fun _ => But (fun b => vs.ownBlock = some b ∨ b = gx) w3) ?_ (fun _ _ h => h.1) (.inl (by kernel_rfl)) ?_ ?_
            · rintro v w4 w5 ⟨h1, h2, h3, h4, h5⟩ k
              exact ⟨h1.trans (k.mono (fun _ _ h => h.elim)), ownsRow_grow h2 k, h3, fun j hj => Nat.lt_of_lt_of_le (h4 j hj) k.size, h5.but k (fun h => h)⟩
            · rintro w4 ⟨h1, h2, h3, h4⟩
              have hbk := HT3.out.ref.blk.but h1 HNX.out
              have hne2 : ¬ v2.ownBlock = some gx := fun e => by
                rcases h3 gx e with h | h
                · exact HNX.out h
                · have := HT3.out.ref.blk.lt; omega
              refine turn_store (by kernel_rfl) rfl rfl rfl HV2.out hbk (by simp) ⟨(h1.mono (fun _ _ h => .inl h)).trans ((But.set1 _ _ _ _).mono (fun _ _ h => .inr h)), ownsRow_but h2 (But.set1 _ _ _ _) (fun j hj e => hne2 (by rw [← e]; exact hj)), h3, fun j hj => by have := h4 j hj; simpa using this, hbk.set 1 v2⟩
            · rintro v5 - Y hY
              go_simp
              refine hY _ ?_
              clear hY Y
              intro ι hne X hX
              refine still_nil ?_
              clear hX hne
              rintro w5 ⟨h1, h2, h3, h4, h5⟩
              obtain ⟨ro5, hf5, hr5⟩ := HT3.out.ref.addS (e := ((A k).2.2.2, va, vz)) HT3.out.log.grow.size h1 h2 h3 h4 h5 (HTV3.out.but h1 (fun j hj e => by
                rcases e with e | e
                · have := HT3.out.ref.new j (by rw [show ro j = _ from HT3.out.ref.sea.row.inF j e]; decide); omega
                · have := HT3.out.ref.new j (by rw [e, HT3.out.ref.tag]; decide); omega))
              have hT5 := HT3.out.turn (h1.mono (fun b _ e => by
                rcases e with e | e
                · rw [show ro b = _ from HT3.out.ref.sea.row.inF b e]; decide
                · rw [e, HT3.out.ref.tag]; decide)) hf5 hr5
              have HPN : Hid (PlayS w w5 gl gx (k + 1)) := by
                refine ⟨own3, ro5, vp, v2, vo, LP, LS ++ [((A k).2.2.2, va, vz)], LO, ?_, ⟨by have := HLEN.out.1; omega, by rw [List.length_append, List.length_singleton]; have := HLEN.out.2.1; omega, by have := HLEN.out.2.2; omega⟩, HSP.out, fun e he => ?_, HSO.out⟩
                · simpa using hT5
                · rcases List.mem_append.1 he with he | he
                  · exact HSS.out e he
                  · rw [show e = ((A k).2.2.2, va, vz) by simpa using he]; exact HSMK.out.2
              clear h1 h2 h3 h4 h5 hf5 hr5 hT5
              go_wp2
              exact ⟨⟨k + 1, by omega, by omega, by go_num, rfl, HPN.out⟩, by simp [intOf]; omega⟩
      · have HTT : Hid (∀ w', Blk w' g9 59 (gcells (A k) ud va vz) → ∀ c u, (tcells (A k).2.2.2 va vz)[c]? = some u → w'.cell? ((⟨g9, 34, none⟩ : Addr).add c) = some u) := fun w' hw c u hcu => by
          rw [addr_add, hw.cell]
          exact gcells_t HGA.out.dg.1 hcu
        obtain ⟨B, hB⟩ : ∃ B, B = (tcells (A k).2.2.2 va vz).toArray := ⟨_, rfl⟩
        have HBE := Hid.mk' hB
        have HTL : Hid ((tcells (A k).2.2.2 va vz).length = 15) := tcells_len HTV.out.nl _ _
        have HOW := Hid.mk' (rown_any (HTV.out.but (R := fun _ => False) HG.out (fun _ _ h => h)) (by have := HSMK.out.2.1; omega) (by have := HSMK.out.2.2; omega))
        rw [← hB] at HOW
        clear hB c0 hp
        go_wp2_with (first
          | (refine wpList_load_cells rfl _ _ rfl ⟨g9, 34, none⟩ rfl (tcells (A k).2.2.2 va vz) _ (HTT.out _ HA9.out) Tryd.underlying46 rfl (by rw [iT, HTL.out]) ?_; rw [← HBE.out])
          | fail)
        refine Calls.mono HOW.out ?_
        rintro e w2 ⟨ua, uz, rfl, hnew, hg2⟩
        have HN2 := Hid.mk' (hnew.free HT1.out.log.lg.top (Nat.le_refl _))
        have HT2 := Hid.mk' (HT1.out.then hg2)
        have HA2 := Hid.mk' (HA9.out.but hg2 (fun h => h))
        have HG2 := Hid.mk' (HG.out.trans hg2)
        have HCALL := Hid.mk' (opened_any HT2.out.log.lg HN2.out (by have := HSMK.out.2.1; omega) (by have := HSMK.out.2.2; omega) (by rw [List.length_map]; have := HLEN.out.2.1; omega) (by rw [List.length_map]; have := HLEN.out.2.2; omega))
        obtain ⟨U, hU⟩ : ∃ U, U = (tcells (A k).2.2.2 ua uz).toArray := ⟨_, rfl⟩
        rw [← hU] at HCALL ⊢
        clear hU hnew hg2 HOW HA9 HT1 HG HN2
        go_wp2_with fail
        refine Calls.mono HCALL.out ?_
        rintro e w3 ⟨rfl, hto⟩
        obtain ⟨own3, hT3, -⟩ := HT2.out.to hto
        have HT3 := Hid.mk' hT3
        have HA3 := Hid.mk' (HA2.out.but hto.but (fun h => h HO9.out))
        have HTV3 : Hid (Tv w3 (· < w.heap.size) (A k).2.2.2 va vz) := (HTV.out.but (R := fun _ => False) hT3.log.grow (fun _ _ h => h))
        clear hT3 hto HCALL HA2 HT2 HG2
        go_upto_region 10 with fail
        have HNX : Hid (¬ vo.ownBlock = some gx) := fun e => by
          have h1 : ro gx = .str := HT3.out.ref.ope.row.inF gx e
          rw [HT3.out.ref.tag] at h1
          cases h1
        have HN9 : Hid (¬ vo.ownBlock = some g9) := fun e => by
          have h1 : ro g9 = .str := HT3.out.ref.ope.row.inF g9 e
          rw [HR9.out] at h1
          cases h1
        have HONE : Hid (∀ u ∈ tcells (A k).2.2.2 va vz, u.oneCell' = true) := tcells_one HTV3.out.aad.1.one HTV3.out.sea.1.one
        have HVO : Hid (vo.oneCell' = true) := ownsRow_one HT3.out.ref.ope.row.own
        refine region_chain [([0, 1, 2, 3, 4, 5, 6], 7), ([], 8), ([9, 10], 11)] [] (But (fun b => vo.ownBlock = some b) w3) (Grow w3) (by kernel_rfl) (by kernel_rfl) (fun _ _ h k => h.trans k) (fun _ h => h.mono (fun _ _ h => h.elim)) ((But.refl _ w3).drew) ?_
        intro ι hne X hX
        have c2 : ∀ x, (X x).cell? ⟨gx, 2, none⟩ = some vo := fun x => (HT3.out.ref.blk.but (hX x) HNX.out).cell 2
        iterate 6 (refine still_step rfl (fun K hK => ?_); go_simp; refine hK _ ?_; clear hK K)
        refine still_val rfl (.agg B) rfl (fun x => by rw [HBE.out]; exact run_load_tup (HTT.out _ (HA3.out.but (hX x) HN9.out)) HTL.out rfl rfl) ?_
        intro K hK; go_simp; refine hK _ ?_; clear hK K
        refine still_nil ?_
        clear c2 hX hne
        refine turn_run rfl rfl (fun v w' => Grow w3 w' ∧ ∃ g, v = .slice (some ⟨g, 0, none⟩) 1 1 ∧ Blk w' g 46 (tcells (A k).2.2.2 va vz)) (fun _ => But (fun b => vo.ownBlock = some b) w3) ?_ (fun _ _ h => h.1.mono (fun _ _ h => h.elim)) (.inr (fun _ _ h => h)) ?_ ?_
        · rintro v w4 w5 ⟨h1, g, h2, h3⟩ k
          exact ⟨h1.trans k, g, h2, h3.but k (fun h => h)⟩
        · intro w4 h4
          refine turn_row1 (v := .agg B) Tryd.underlying39 infT (by decide) (by decide) rfl rfl (by rw [HBE.out]; show (tcells (A k).2.2.2 va vz).toArray.size = 15; simpa using HTL.out) ⟨h4.trans ((But.refl _ w4).alloc _), _, rfl, ?_⟩
          rw [HBE.out]
          exact Blk.new rfl
        · rintro v ⟨wq, -, gn, rfl, -⟩ Y hY
          clear wq
          go_simp
          refine hY _ ?_
          clear hY Y
          intro ι hne X hX
          refine still_nil ?_
          clear hX hne
          refine turn_run rfl rfl (fun v w' => But (fun b => vo.ownBlock = some b) w3 w' ∧ w'.ownsRow 0 46 15 v (LO.length + 1) (LO.flatMap tc ++ tcells (A k).2.2.2 va vz) ∧ (∀ k, v.ownBlock = some k → vo.ownBlock = some k ∨ w3.heap.size ≤ k) ∧ (∀ k, v.ownBlock = some k → k < w'.heap.size)) (fun _ => But (fun b => vo.ownBlock = some b) w3) ?_ (fun _ _ h => h.1) (.inr (fun _ _ h => h)) ?_ ?_
          · rintro v w4 w5 ⟨h1, h2, h3, h4⟩ k
            exact ⟨h1.trans (k.mono (fun _ _ h => h.elim)), ownsRow_grow h2 k, h3, fun j hj => Nat.lt_of_lt_of_le (h4 j hj) k.size⟩
          · rintro w4 ⟨h1, g', e9, h2⟩
            cases e9
            refine turn_append (v := vo) (news := tcells (A k).2.2.2 va vz) Tryd.underlying39 infT rfl (by decide) rfl rfl (ownsRow_grow HT3.out.ref.ope.row.own h1) rfl (by rw [HTL.out]) (fun j u hj => h2.cells0 j u hj) HONE.out (by have := HLEN.out; omega) (by decide) ?_
            intro v' w5 ha
            refine ⟨(h1.mono (fun _ _ h => h.elim)).trans ha.but, ha.own, fun j hj => ?_, ha.lt⟩
            rcases ha.at' with e | e
            · exact .inl (by rw [← e]; exact hj)
            · rw [e] at hj
              cases hj
              exact .inr h1.size
          · rintro v2 ⟨wq, -, hov, -⟩ Y hY
            have HV2 : Hid (v2.oneCell' = true) := ownsRow_one hov
            clear hov wq
            go_simp
            refine hY _ ?_
            clear hY Y
            intro ι hne X hX
            iterate 2 (refine still_step rfl (fun K hK => ?_); go_simp; refine hK _ ?_; clear hK K)
            refine still_nil ?_
            clear hX hne
            refine turn_run rfl rfl (fun _ w' => But (fun b => vo.ownBlock = some b ∨ b = gx) w3 w' ∧ w'.ownsRow 0 46 15 v2 (LO.length + 1) (LO.flatMap tc ++ tcells (A k).2.2.2 va vz) ∧ (∀ k, v2.ownBlock = some k → vo.ownBlock = some k ∨ w3.heap.size ≤ k) ∧ (∀ k, v2.ownBlock = some k → k < w'.heap.size) ∧ Blk w' gx 41 [vp, vs, v2]) (fun _ => But (fun b => vo.ownBlock = some b ∨ b = gx) w3) ?_ (fun _ _ h => h.1) (.inl (by kernel_rfl)) ?_ ?_
            · rintro v w4 w5 ⟨h1, h2, h3, h4, h5⟩ k
              exact ⟨h1.trans (k.mono (fun _ _ h => h.elim)), ownsRow_grow h2 k, h3, fun j hj => Nat.lt_of_lt_of_le (h4 j hj) k.size, h5.but k (fun h => h)⟩
            · rintro w4 ⟨h1, h2, h3, h4⟩
              have hbk := HT3.out.ref.blk.but h1 HNX.out
              have hne2 : ¬ v2.ownBlock = some gx := fun e => by
                rcases h3 gx e with h | h
                · exact HNX.out h
                · have := HT3.out.ref.blk.lt; omega
              refine turn_store (by kernel_rfl) rfl rfl rfl HV2.out hbk (by simp) ⟨(h1.mono (fun _ _ h => .inl h)).trans ((But.set1 _ _ _ _).mono (fun _ _ h => .inr h)), ownsRow_but h2 (But.set1 _ _ _ _) (fun j hj e => hne2 (by rw [← e]; exact hj)), h3, fun j hj => by have := h4 j hj; simpa using this, hbk.set 2 v2⟩
            · rintro v5 - Y hY
              go_simp
              refine hY _ ?_
              clear hY Y
              intro ι hne X hX
              refine still_nil ?_
              clear hX hne
              rintro w5 ⟨h1, h2, h3, h4, h5⟩
              obtain ⟨ro5, hf5, hr5⟩ := HT3.out.ref.addO (e := ((A k).2.2.2, va, vz)) HT3.out.log.grow.size h1 h2 h3 h4 h5 (HTV3.out.but h1 (fun j hj e => by
                rcases e with e | e
                · have := HT3.out.ref.new j (by rw [show ro j = _ from HT3.out.ref.ope.row.inF j e]; decide); omega
                · have := HT3.out.ref.new j (by rw [e, HT3.out.ref.tag]; decide); omega))
              have hT5 := HT3.out.turn (h1.mono (fun b _ e => by
                rcases e with e | e
                · rw [show ro b = _ from HT3.out.ref.ope.row.inF b e]; decide
                · rw [e, HT3.out.ref.tag]; decide)) hf5 hr5
              have HPN : Hid (PlayS w w5 gl gx (k + 1)) := by
                refine ⟨own3, ro5, vp, vs, v2, LP, LS, LO ++ [((A k).2.2.2, va, vz)], ?_, ⟨by have := HLEN.out.1; omega, by have := HLEN.out.2.1; omega, by rw [List.length_append, List.length_singleton]; have := HLEN.out.2.2; omega⟩, HSP.out, HSS.out, fun e he => ?_⟩
                · simpa using hT5
                · rcases List.mem_append.1 he with he | he
                  · exact HSO.out e he
                  · rw [show e = ((A k).2.2.2, va, vz) by simpa using he]; exact HSMK.out.2
              clear h1 h2 h3 h4 h5 hf5 hr5 hT5
              go_wp2
              exact ⟨⟨k + 1, by omega, by omega, by go_num, rfl, HPN.out⟩, by simp [intOf]; omega⟩
    all_goals (
      first
        | (have h1 : ¬ ((k : Int) < (n : Int)) := by omega)
        | (have h1 : (k : Int) < (n : Int) := by omega
           have h2 : ¬ ((k : Int) < 300) := by omega)
      go_wp2
      exact bodyPost_ret (results_tmp3 rfl _ _ _) rfl ⟨gl, gx, rfl, HPL.out.up hk3⟩)
end Go.Proofs.YthpgjbblbhjndaaDoor
