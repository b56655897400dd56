/- The reference's settle: all that may be granted is. -/
import Derived.Test.YtgldkckhliklhaaLtMay
import Derived.Test.YtgldkckhliklhaaLtRising
import Derived.Test.YtgldkckhliklhaaLtAwake
namespace Go.Proofs.Ytgldkckhliklhaa
open Go.RowKit

theorem erase_wt {l : List Wt} (hn : (l.map (·.1)).Nodup) {i : Nat} {e : Wt} (hi : l[i]? = some e) : l.filter (fun x => !(x.1 == e.1)) = l.take i ++ l.drop (i + 1) := by
  have h3 := List.getElem?_eq_some_iff.1 hi
  have e1 : l = l.take i ++ e :: l.drop (i + 1) := by rw [← h3.2, List.getElem_cons_drop, List.take_append_drop]
  have hn2 := hn
  rw [e1, List.map_append, List.map_cons, List.nodup_append] at hn2
  obtain ⟨-, h4, h5⟩ := hn2
  rw [List.nodup_cons] at h4
  conv => lhs; rw [e1]
  rw [List.filter_append, List.filter_cons, if_neg (by simp)]
  congr 1
  · rw [List.filter_eq_self]
    intro x hx
    have : x.1 ≠ e.1 := h5 x.1 (List.mem_map.2 ⟨x, hx, rfl⟩) e.1 List.mem_cons_self
    simpa using this
  · rw [List.filter_eq_self]
    intro x hx
    have : x.1 ≠ e.1 := fun e2 => h4.1 (List.mem_map.2 ⟨x, hx, e2⟩)
    simpa using this
theorem flat_dropW {α : Type} {f : α → List Value} {sz : Nat} (L : List α) (hs : ∀ x ∈ L, (f x).length = sz) (k : Nat) : (L.drop k).flatMap f = (L.flatMap f).drop (k * sz) := by
  by_cases hk : k ≤ L.length
  · have h1 : L.flatMap f = (L.take k).flatMap f ++ (L.drop k).flatMap f := by rw [← List.flatMap_append, List.take_append_drop]
    rw [h1, List.drop_left']
    rw [flat_len' _ (fun x hx => hs x (List.mem_of_mem_take hx)), List.length_take, Nat.min_eq_left hk]
  · rw [List.drop_eq_nil_of_le (by omega), List.drop_eq_nil_of_le (by rw [flat_len' L hs]; exact Nat.mul_le_mul_right _ (by omega))]
    rfl
theorem flat_takeW {α : Type} {f : α → List Value} {sz : Nat} (L : List α) (hs : ∀ x ∈ L, (f x).length = sz) (k : Nat) (hk : k ≤ L.length) : (L.take k).flatMap f = (L.flatMap f).take (k * sz) := by
  have h1 : L.flatMap f = (L.take k).flatMap f ++ (L.drop k).flatMap f := by rw [← List.flatMap_append, List.take_append_drop]
  rw [h1, List.take_left']
  rw [flat_len' _ (fun x hx => hs x (List.mem_of_mem_take hx)), List.length_take, Nat.min_eq_left hk]
/-- The first one of a key's queue. -/
theorem head_at {k : Int} : ∀ {L : List Wt} {x : Wt} {r : List Wt}, L.filter (fun y => y.2.1 == k) = x :: r → ∃ i : Nat, L[i]? = some x ∧ x.2.1 = k ∧ ∀ j, j < i → ∀ y : Wt, L[j]? = some y → y.2.1 ≠ k
  | [], x, r, h => by simp at h
  | y :: L, x, r, h => by
    rw [List.filter_cons] at h
    split at h
    · rename_i hy
      have e := (List.cons.inj h).1
      subst e
      exact ⟨0, rfl, by simpa using hy, fun j hj => absurd hj (by omega)⟩
    · rename_i hy
      obtain ⟨i, h1, h2, h3⟩ := head_at h
      refine ⟨i + 1, by simpa using h1, h2, fun j hj z hz => ?_⟩
      cases j with
      | zero =>
        have e : y = z := by simpa using hz
        subst e
        simpa using hy
      | succ j => exact h3 j (by omega) z (by simpa using hz)
theorem at_head {k : Int} : ∀ {L : List Wt} {x : Wt} {i : Nat}, L[i]? = some x → x.2.1 = k → (∀ j, j < i → ∀ y : Wt, L[j]? = some y → y.2.1 ≠ k) → ∃ r, L.filter (fun y => y.2.1 == k) = x :: r
  | [], x, i, h, _, _ => by simp at h
  | y :: L, x, 0, h, hk, _ => by
    have e : y = x := by simpa using h
    subst e
    exact ⟨_, by rw [List.filter_cons, if_pos (by simpa using hk)]⟩
  | y :: L, x, i + 1, h, hk, h0 => by
    have hy : y.2.1 ≠ k := h0 0 (by omega) y rfl
    rw [List.filter_cons, if_neg (by simpa using hy)]
    exact at_head (L := L) (i := i) (by simpa using h) hk (fun j hj z hz => h0 (j + 1) (by omega) z (by simpa using hz))
theorem exec_ldW {w : World} {o : Oper} {ρ : Operand → Value} {T : TypeId} {d : TypeDesc} (hu : Try.prog.underlying T = some d) (hd : (match d with | .struct _ | .array _ _ => true | _ => false) = true) {cs : List Value} (hi : (Try.prog.info? T).map (·.size) = some cs.length) {x : Operand} {ad : Addr} (hc : ∀ j u, cs[j]? = some u → w.cell? (ad.add j) = some u)
    (ho : o.op = .load T x) (hx : ρ x = .pointer (some ad)) : (execOp ρ o).run Try.prog w = .ok (.value (.agg cs.toArray)) w := by
  have h := run_loadVar_cells w ad T cs _ hc hu hd hi
  unfold execOp
  simp only [ho, hx, Instr.loadAt, Instr.sureAddr, Sem.run_bind, Sem.run_pure, Result.andThen_ok, h]
/-- How long the queue is. -/
def lenQ (w : World) (gx : Nat) : Nat := match w.cell? ⟨gx, 1, none⟩ with
  | some (.slice _ n _) => n
  | _ => 0
/-- Amid settle. -/
structure StI (w wr : World) (gx : Nat) (vh vq : Value) (s : Ls) (out : Value) (i : Nat) (G : List Wt) (s' : Ls) (vh' vq' : Value) : Prop where
  st : Steps (fun _ => True) s G s'
  rt : Rt wr gx vh' vq' s'
  but : But (RS gx vh vq) w wr
  sub : ∀ b, RS gx vh' vq' b → RS gx vh vq b ∨ w.heap.size ≤ b
  row : wr.ownsRow 0 3 1 out G.length (numv (G.map (·.1)))
  new : ∀ b, out.ownBlock = some b → w.heap.size ≤ b ∧ ¬ RS gx vh' vq' b
  no : ∀ p, p < i → ∀ x, s'.q[p]? = some x → ¬ ((∀ j, j < p → ∀ y : Wt, s'.q[j]? = some y → y.2.1 ≠ x.2.1) ∧ mayG s'.has x = true)
/-- What settle leaves and tells. -/
def SeTo (w : World) (gx : Nat) (vh vq : Value) (s : Ls) (e : Ending) (w' : World) : Prop := ∃ v G s', e = .returned v ∧ Steps (fun _ => True) s G s' ∧ (∀ j, Stb s' j) ∧ RtTo w gx vh vq s' w' ∧ Nums w' v (srt (G.map (·.1))) ∧ (∀ b, v.ownBlock = some b → w.heap.size ≤ b)
theorem StI.stb {w wr : World} {gx : Nat} {vh vq out vh' vq' : Value} {s s' : Ls} {i : Nat} {G : List Wt} (h : StI w wr gx vh vq s out i G s' vh' vq') (hi : s'.q.length ≤ i) : ∀ j, Stb s' j := by
  intro j x r e
  obtain ⟨p, h1, h2, h3⟩ := head_at e
  have hp := (List.getElem?_eq_some_iff.1 h1).1
  have := h.no p (by omega) x h1
  cases hm : mayG s'.has x with
  | false => rfl
  | true => exact absurd ⟨by rw [h2]; exact h3, hm⟩ this
section
variable {w : World} {gx : Nat} {vh vq : Value} {s : Ls}
set_option maxRecDepth 100000 in
set_option maxHeartbeats 4000000 in
theorem settle_any (h : Rt w gx vh vq s) (hok : Lok s) (hsum : s.has.length + s.q.length ≤ 10000) : Calls Try.prog 26 #[ptr gx] w (SeTo w gx vh vq s) := by
  have HOK := Hid.mk' hok
  have HSUM := Hid.mk' hsum
  have HST0 : Hid (StI w w gx vh vq s (.slice none 0 0) 0 [] s vh vq) := ⟨.nil _, h, But.refl _ _, fun _ h => .inl h, World.ownsRow_nil _ _ _ _, (fun b hb => by cases hb), fun p hp => absurd hp (by omega)⟩
  clear h hok hsum
  go_enter Try.func26, Try.ntmps26
  go_wp2
  go_loopw [3, 4] (fun ov iv wr => ∃ (i : Nat) (out : Value) (G : List Wt) (s' : Ls) (vh' vq' : Value), out = ov ∧ iv = .int .i64 i ∧ i ≤ s'.q.length ∧ StI w wr gx vh vq s out i G s' vh' vq') (fun _ iv wr => lenQ wr gx * 20000 + (lenQ wr gx - (intOf iv).toNat))
  case atStart => exact ⟨0, _, [], s, vh, vq, rfl, rfl, Nat.zero_le _, HST0.out⟩
  case round =>
    clear HST0
    obtain ⟨i, out, G, s1, vh1, vq1, rfl, rfl, hil, hI⟩ := hrel
    have HI := Hid.mk' hI
    obtain ⟨n, hn⟩ : ∃ n, n = s1.q.length := ⟨_, rfl⟩
    obtain ⟨qa, qc, e, -⟩ := hI.rt.qrow.shape
    rw [← hn] at e
    subst e
    have HN := Hid.mk' hn
    have hok1 := steps_lok hI.st HOK.out
    have HOK1 := Hid.mk' hok1
    have hsum1 := (steps_sum hI.st)
    have HNB : Hid (n ≤ 10000 ∧ s1.has.length + s1.q.length ≤ 10000 ∧ G.length ≤ 10000) := Hid.mk' (by have := HSUM.out; omega)
    have hnb : (n : Int) ≤ 10000 := by have := HNB.out; omega
    have hlq : lenQ wr gx = n := by
      unfold lenQ
      rw [show wr.cell? ⟨gx, 1, none⟩ = some (.slice qa n qc) from hI.rt.blk.cell 1]
    have HLQ := Hid.mk' hlq
    have c1 : wr.cell? ⟨gx, 1, none⟩ = some (.slice qa n qc) := hI.rt.blk.cell 1
    have hib : (i : Int) ≤ 10000 := by omega
    clear hI hok1 hsum1 hlq
    by_cases hlt : (i : Int) < (n : Int)
    · obtain ⟨⟨xt, xk, xa⟩, hx⟩ : ∃ e, s1.q[i]? = some e := ⟨_, List.getElem?_eq_getElem (by have := HN.out; omega)⟩
      have HX := Hid.mk' hx
      have HMAY := Hid.mk' (may_any HI.out.rt hx)
      clear hx hn hil
      go_wp2_with fail
      refine Calls.mono HMAY.out ?_
      rintro e w2 ⟨r, rfl, hr, hg2⟩
      have HG2 := Hid.mk' hg2
      have HR := Hid.mk' hr
      clear hg2 hr HMAY c1
      cases r with
      | false =>
        have HI2 : Hid (StI w w2 gx vh vq s out (i + 1) G s1 vh1 (.slice qa n qc)) := ⟨HI.out.st, HI.out.rt.grow HG2.out, HI.out.but.trans (HG2.out.mono (fun _ _ h => h.elim)), HI.out.sub, ownsRow_grow HI.out.row HG2.out, HI.out.new, fun p hp x hx hc => by
          rcases Nat.lt_succ_iff_lt_or_eq.1 hp with h3 | h3
          · exact HI.out.no p h3 x hx hc
          · subst h3
            rw [HX.out] at hx
            cases hx
            exact absurd (HR.out.2 hc) (by decide)⟩
        have HLQ2 : Hid (lenQ w2 gx = n) := Hid.mk' (by
          unfold lenQ
          rw [show w2.cell? ⟨gx, 1, none⟩ = some (.slice qa n qc) from HI2.out.rt.blk.cell 1])
        go_wp2
        refine ⟨⟨i + 1, out, G, s1, vh1, _, rfl, by go_num, by have := HN.out; omega, HI2.out⟩, ?_⟩
        rw [HLQ2.out, HLQ.out]
        show n * 20000 + (n - ((i : Int) + 1).toNat) < n * 20000 + (n - ((i : Int)).toNat)
        omega
      | true =>
        obtain ⟨hfirst, hmay⟩ := HR.out.1 rfl
        obtain ⟨r0, hq0⟩ := at_head HX.out rfl hfirst
        have HSTP : Hid (Steps (fun _ => True) s (G ++ [(xt, xk, xa)]) (s1.grant (xt, xk, xa))) := HI.out.st.snoc hq0 trivial hmay
        have HER : Hid ((s1.grant (xt, xk, xa)).q = s1.q.take i ++ s1.q.drop (i + 1)) := erase_wt HOK1.out.qn HX.out
        obtain ⟨m, hm⟩ : ∃ m, m = s1.has.length := ⟨_, rfl⟩
        have hrt := HI.out.rt.grow HG2.out
        obtain ⟨ha, hc, e, -⟩ := hrt.hrow.shape
        rw [← hm] at e
        subst e
        obtain ⟨g, cp, e1, -, hcell⟩ := hrt.qrow.cellAt (fun e _ => wnc_len e) HX.out
        simp only [Value.slice.injEq] at e1
        obtain ⟨rfl, -, rfl⟩ := e1
        have HCW : Hid (∀ c u, (wnc (xt, xk, xa))[c]? = some u → w2.cell? ((⟨g, i * 3, none⟩ : Addr).add c) = some u) := fun c u hc => by
          rw [addr_add]; exact hcell c u hc
        obtain ⟨gb, hgb⟩ : ∃ gb, gb = w2.heap.size := ⟨_, rfl⟩
        have HGB := Hid.mk' hgb
        have HAL : Hid (Grow w2 (w2.alloc (.cells #[.int .i64 0, .int .i64 0, .bool false] 64))) := (But.refl _ w2).alloc _
        have HBZ : Hid (Blk (w2.alloc (.cells #[.int .i64 0, .int .i64 0, .bool false] 64)) gb 64 [.int .i64 0, .int .i64 0, .bool false]) := Blk.new (L := [.int .i64 0, .int .i64 0, .bool false]) hgb.symm
        have c1 : w2.cell? ⟨gx, 1, none⟩ = some (.slice (some ⟨g, 0, none⟩) n qc) := hrt.blk.cell 1
        have HM := Hid.mk' hm
        have HRT := Hid.mk' hrt
        have HMB : Hid (m + 1 ≤ 10000) := Hid.mk' (by have := HNB.out; have := HN.out; omega)
        clear hfirst hmay hq0 hrt hcell hgb hm
        go_upto_region 7 with (first
          | (refine wpList_load_cells rfl _ _ rfl ⟨g, i * 3, none⟩ rfl (wnc (xt, xk, xa)) _ HCW.out Try.underlying64 rfl iWn ?_)
          | (refine wpList_store_at rfl _ _ _ rfl gb 0 (wnc (xt, xk, xa)) (by rw [HGB.out]; rfl) rfl 64 [] [.int .i64 0, .int .i64 0, .bool false] [] (by simpa using HBZ.out) rfl rfl iWn (wnc_one _) ?_; intro w3 hb3 hbut3; rw [List.nil_append, List.append_nil] at hb3)
          | fail)
        have hg3 : Grow w2 w3 := HAL.out.then hbut3 (fun j hj e => by have := HGB.out; omega)
        have HG3 := Hid.mk' hg3
        have HRT3 := Hid.mk' (HRT.out.grow hg3)
        have HB3 := Hid.mk' hb3
        have HNB3 : Hid (∀ b, RS gx (.slice ha m hc) (.slice (some ⟨g, 0, none⟩) n qc) b → b ≠ gb) := fun b hb e => by have := HRT.out.lt hb; have := HGB.out; omega
        have HVX : Hid (¬ (Value.slice ha m hc).ownBlock = some gx) := fun e => (HRT3.out.dh gx e).1 rfl
        have HVB : Hid (¬ (Value.slice ha m hc).ownBlock = some gb) := fun e => HNB3.out gb (.inr (.inl e)) rfl
        have hro := HRT3.out.rh
        rw [← HM.out] at hro
        have HRO := Hid.mk' hro
        have HBX := Hid.mk' HRT3.out.blk
        rw [← HGB.out]
        clear hb3 hbut3 HAL HBZ HCW c1 hg3 hro
        go_upto_region 7 with fail
        refine region_chain [([0, 1, 2, 3, 4, 5], 6), ([], 7), ([8, 9], 10)] [] (But (fun k => (Value.slice ha m hc).ownBlock = some k) w3) (Grow w3) (by kernel_rfl) (by kernel_rfl) (fun _ _ h k => h.trans k) (fun _ h => h.mono (fun _ _ h => h.elim)) ((But.refl _ w3).drew) ?_
        intro ι hne X hX
        have d1 : ∀ x, (X x).cell? ⟨gx, 0, none⟩ = some (.slice ha m hc) := fun x => (HBX.out.but (hX x) HVX.out).cell 0
        iterate 5 (refine still_step rfl (fun K hK => ?_); go_simp; refine hK _ ?_; clear hK K)
        refine still_val rfl (.agg #[.int .i64 xt, .int .i64 xk, .bool xa]) rfl (fun x => exec_ldW (cs := wnc (xt, xk, xa)) Try.underlying64 rfl iWn (HB3.out.but (hX x) HVB.out).cells0 rfl rfl) ?_
        intro K hK; go_simp; refine hK _ ?_; clear hK K
        refine still_nil ?_
        clear hX hne d1 X ι
        refine turn_run rfl rfl (fun u w' => Grow w3 w' ∧ ∃ g, u = .slice (some ⟨g, 0, none⟩) 1 1 ∧ Blk w' g 64 (wnc (xt, xk, xa))) (fun _ => But (fun k => (Value.slice ha m hc).ownBlock = some k) w3) ?_ (fun _ _ h => h.1.mono (fun _ _ h => h.elim)) (.inr (fun _ _ h => h)) ?_ ?_
        · rintro u w5 w6 ⟨h1, g, h3, h4⟩ k
          exact ⟨h1.trans k, g, h3, h4.but k (fun h => h)⟩
        · rintro w5 h4
          refine turn_row1 (v := .agg #[.int .i64 xt, .int .i64 xk, .bool xa]) Try.underlying26 infWn (by decide) (by decide) rfl rfl rfl ⟨h4.trans ((But.refl _ w5).alloc _), _, rfl, ?_⟩
          exact Blk.new (L := wnc (xt, xk, xa)) rfl
        rintro u ⟨wq, -, gn, rfl, -⟩ Y hY
        clear wq
        go_simp
        refine hY _ ?_
        clear hY Y
        intro ι hne X hX
        refine still_nil ?_
        clear hX hne X ι
        refine turn_run rfl rfl (fun u w' => But (fun k => (Value.slice ha m hc).ownBlock = some k) w3 w' ∧ w'.ownsRow 0 64 3 u (m + 1) (s1.has.flatMap wnc ++ wnc (xt, xk, xa)) ∧ (∀ k, u.ownBlock = some k → (Value.slice ha m hc).ownBlock = some k ∨ w3.heap.size ≤ k)) (fun _ => But (fun k => (Value.slice ha m hc).ownBlock = some k) w3) ?_ (fun _ _ h => h.1) (.inr (fun _ _ h => h)) ?_ ?_
        · rintro u w5 w6 ⟨h1, h2, h3⟩ k
          exact ⟨h1.trans (k.mono (fun _ _ h => h.elim)), ownsRow_grow h2 k, h3⟩
        · rintro w5 ⟨h1, g', e9, h3⟩
          cases e9
          refine turn_append (v := .slice ha m hc) (n := m) (xs := s1.has.flatMap wnc) (news := wnc (xt, xk, xa)) Try.underlying26 infWn rfl (by decide) rfl rfl (ownsRow_grow HRO.out h1) rfl rfl (fun j u hj => h3.cells0 j u hj) (wnc_one _) (by have := HMB.out; omega) (by decide) ?_
          intro v' w6 hap
          refine ⟨(h1.mono (fun _ _ h => h.elim)).trans hap.but, hap.own, fun j hj => ?_⟩
          rcases hap.at' with e | e
          · exact .inl (by rw [← e]; exact hj)
          · rw [e] at hj
            cases hj
            exact .inr h1.size
        rintro v2 ⟨wq, -, hov, -⟩ Y hY
        have HV2 : Hid (v2.oneCell' = true) := ownsRow_one hov
        clear hov wq
        go_simp
        refine hY _ ?_
        clear hY Y
        intro ι hne X hX
        iterate 2 (refine still_step rfl (fun K hK => ?_); go_simp; refine hK _ ?_; clear hK K)
        refine still_nil ?_
        clear hX hne X ι
        refine turn_run rfl rfl (fun _ w5 => Rt w5 gx v2 (.slice (some ⟨g, 0, none⟩) n qc) ⟨s1.has ++ [(xt, xk, xa)], s1.q⟩ ∧ But (RS gx (.slice ha m hc) (.slice (some ⟨g, 0, none⟩) n qc)) w3 w5 ∧ ∀ b, RS gx v2 (.slice (some ⟨g, 0, none⟩) n qc) b → RS gx (.slice ha m hc) (.slice (some ⟨g, 0, none⟩) n qc) b ∨ w3.heap.size ≤ b) (fun _ _ => True) (fun _ _ _ h k => ⟨h.1.grow k, h.2.1.trans (k.mono (fun _ _ h => h.elim)), h.2.2⟩) (fun _ _ _ => trivial) (.inl (by kernel_rfl)) ?_ ?_
        · rintro w5 ⟨h1, h3, h4⟩
          have hbk := HBX.out.but h1 HVX.out
          have hrow : w5.ownsRow 0 64 3 v2 (s1.has ++ [(xt, xk, xa)]).length ((s1.has ++ [(xt, xk, xa)]).flatMap wnc) := by
            rw [show (s1.has ++ [(xt, xk, xa)]).length = m + 1 by rw [List.length_append, ← HM.out]; rfl, show (s1.has ++ [(xt, xk, xa)]).flatMap wnc = s1.has.flatMap wnc ++ wnc (xt, xk, xa) by simp]
            exact h3
          exact turn_store iWs rfl rfl rfl HV2.out hbk (by simp) (HRT3.out.putH h1 hrow h4 (by rw [List.length_append, ← HM.out]; have := HMB.out; simp; omega))
        rintro v5 - Y hY
        go_simp
        refine hY _ ?_
        clear hY Y
        intro ι hne X hX
        refine still_nil ?_
        clear hX hne X ι
        rintro w5 ⟨hr5, hb5, hs5⟩
        have HRT5 := Hid.mk' hr5
        have HBUT5 := Hid.mk' hb5
        have HSUB5 := Hid.mk' hs5
        clear hr5 hb5 hs5
        have hil : i < s1.q.length := (List.getElem?_eq_some_iff.1 HX.out).1
        have hcap := HRT5.out.qrow
        rw [show (Ls.mk (s1.has ++ [(xt, xk, xa)]) s1.q).q.length = n from HN.out.symm] at hcap
        have hcp := hcap.cap
        have hicp : (i : Int) ≤ (qc : Int) := by omega
        obtain ⟨A, ca, hcut, hA, -⟩ := cut_from (T := 26) (e := 64) (sz := 3) (by kernel_rfl) (by kernel_rfl) (fun w0 => by kernel_rfl) (b := g) (n := n) (cap := qc) (k := i + 1) (by omega) (by omega)
        rw [show ((i + 1 : Nat) : Int) = (i : Int) + 1 by push_cast; rfl] at hcut
        have HCUT := Hid.mk' hcut
        have HAA := Hid.mk' hA
        have HC1 : Hid (∀ j u, ((s1.q.take i).flatMap wnc)[j]? = some u → w5.cell? ((⟨g, 0, none⟩ : Addr).add j) = some u) := fun j u hj => by
          rw [flat_takeW s1.q (fun e _ => wnc_len e) i (by omega), List.getElem?_take] at hj
          split at hj
          · obtain ⟨ao, cc, e5, hsh⟩ := HRT5.out.qrow.shape
            obtain ⟨g', e6, -, -, hc⟩ := hsh (by show 0 < s1.q.length; omega)
            simp only [Value.slice.injEq] at e5
            have e7 := e5.1.trans e6
            cases e7
            have := hc j u hj
            rw [addr_add, Nat.zero_add]
            exact this
          · cases hj
        have HC2 : Hid (∀ W, Grow w5 W → ∀ j u, ((s1.q.drop (i + 1)).flatMap wnc)[j]? = some u → W.cell? (A.add j) = some u) := fun W k j u hj => by
          by_cases h9 : i + 1 < n
          · rw [HAA.out h9, addr_add]
            rw [flat_dropW s1.q (fun e _ => wnc_len e), List.getElem?_drop] at hj
            obtain ⟨ao, cc, e5, hsh⟩ := (HRT5.out.grow k).qrow.shape
            obtain ⟨g', e6, -, -, hc⟩ := hsh (by show 0 < s1.q.length; omega)
            simp only [Value.slice.injEq] at e5
            have e7 := e5.1.trans e6
            cases e7
            exact hc _ u hj
          · rw [List.drop_eq_nil_of_le (by have := HN.out; omega)] at hj
            simp at hj
        have HL1 : Hid (((s1.q.take i).flatMap wnc).length = i * 3) := Hid.mk' (by rw [flat_len' _ (fun e _ => wnc_len e), List.length_take, Nat.min_eq_left (by omega)])
        have HL2 : Hid (((s1.q.drop (i + 1)).flatMap wnc).length = (n - (i + 1)) * 3) := Hid.mk' (by rw [flat_len' _ (fun e _ => wnc_len e), List.length_drop, HN.out])
        have c1 : w5.cell? ⟨gx, 1, none⟩ = some (.slice (some ⟨g, 0, none⟩) n qc) := HRT5.out.blk.cell 1
        have HIL := Hid.mk' hil
        clear hil hcap hcp hcut hA
        go_upto_region 10 with (first
          | (refine wpList_someH rfl (exec_append (v := .slice none 0 0) (n := 0) (xs := []) (news := (s1.q.take i).flatMap wnc) Try.underlying26 infWn rfl (by decide) rfl rfl (World.ownsRow_nil _ _ _ _) rfl HL1.out HC1.out (wns_one _) (by have := HNB.out; have := HIL.out; omega) (by decide)) ?_; intro v6 w6 hap)
          | fail)
        have hap' : Appd w5 w6 64 3 (.slice none 0 0) v6 (0 + i) ([] ++ (s1.q.take i).flatMap wnc) := hap
        have hg6 : Grow w5 w6 := hap'.but.mono (fun b _ e => by cases e)
        have HG6 := Hid.mk' hg6
        obtain ⟨a6, c6, e6⟩ := own_sl hap'.own
        rw [Nat.zero_add, List.nil_append] at hap'
        rw [Nat.zero_add] at e6
        have HR6 := Hid.mk' hap'.own
        have HV6 : Hid (∀ k, v6.ownBlock = some k → w5.heap.size ≤ k) := fun k hk => by
          rcases hap'.at' with e | e
          · rw [e] at hk; cases hk
          · rw [e] at hk; have := Option.some.inj hk; omega
        subst e6
        have HRT6 := Hid.mk' (HRT5.out.grow hg6)
        have d1 : w6.cell? ⟨gx, 1, none⟩ = some (.slice (some ⟨g, 0, none⟩) n qc) := HRT6.out.blk.cell 1
        have HBK6 := Hid.mk' HRT6.out.blk
        have HBLT : Hid (gx < w5.heap.size) := Hid.mk' HRT5.out.blk.lt
        clear hap hap' hg6 c1
        go_upto_region 11 with (first
          | (refine wpList_runH rfl (exec_slc rfl rfl rfl rfl (HCUT.out _)) ?_)
          | (refine wpList_someH rfl (exec_append (v := .slice a6 i c6) (n := i) (xs := (s1.q.take i).flatMap wnc) (news := (s1.q.drop (i + 1)).flatMap wnc) Try.underlying26 infWn rfl (by decide) rfl rfl HR6.out rfl HL2.out (HC2.out _ HG6.out) (wns_one _) (by have := HNB.out; have := HIL.out; omega) (by decide)) ?_; intro v7 w7 hap; obtain ⟨a7, c7, e7⟩ := own_sl hap.own; subst e7; have d7 : w7.cell? ⟨gx, 1, none⟩ = some (.slice (some ⟨g, 0, none⟩) n qc) := (HBK6.out.but hap.but (fun e => by have := HV6.out gx e; have := HBLT.out; omega)).cell 1; have f7 : w7.frozen? ⟨gx, 1, none⟩ = false := (HBK6.out.but hap.but (fun e => by have := HV6.out gx e; have := HBLT.out; omega)).free 1)
          | fail)
        have hap' : Appd w6 w7 64 3 (.slice a6 i c6) (.slice a7 (i + (n - (i + 1))) c7) (i + (n - (i + 1))) ((s1.q.take i).flatMap wnc ++ (s1.q.drop (i + 1)).flatMap wnc) := hap
        have hg7 : Grow w5 w7 := HG6.out.then hap'.but (fun b hb e => by have := HV6.out b e; omega)
        have hlen7 : (s1.q.take i ++ s1.q.drop (i + 1)).length = i + (n - (i + 1)) := by rw [List.length_append, List.length_take, List.length_drop, ← HN.out]; have := HIL.out; have := HN.out; omega
        have hrow : w7.ownsRow 0 64 3 (.slice a7 (i + (n - (i + 1))) c7) (s1.q.take i ++ s1.q.drop (i + 1)).length ((s1.q.take i ++ s1.q.drop (i + 1)).flatMap wnc) := by
          rw [List.flatMap_append, hlen7]
          exact hap'.own
        have hv7 : ∀ k, (Value.slice a7 (i + (n - (i + 1))) c7).ownBlock = some k → (Value.slice (some ⟨g, 0, none⟩) n qc).ownBlock = some k ∨ w5.heap.size ≤ k := fun k hk => by
          rcases hap'.at' with e | e
          · exact .inr (HV6.out k (by rw [← e]; exact hk))
          · rw [e] at hk; have := Option.some.inj hk; have := HG6.out.size; exact .inr (by omega)
        have hgb7 : ∀ b, w5.heap.size ≤ b → ¬ b = gb := fun b hb e => by
          have h1 := HB3.out.lt
          have h2 := HBUT5.out.size
          omega
        obtain ⟨r7, b7, s7⟩ := HRT5.out.putQ (hg7.mono (fun _ _ h => h.elim)) hrow hv7 (by rw [hlen7]; have := HNB.out; omega)
        obtain ⟨W7, hW7⟩ : ∃ W7, W7 = w7.setCell ⟨gx, 1, none⟩ (.slice a7 (i + (n - (i + 1))) c7) := ⟨_, rfl⟩
        rw [← hW7] at r7 b7 ⊢
        have HBX7 : Hid (Blk W7 gb 64 (wnc (xt, xk, xa))) := (HB3.out.but HBUT5.out (fun e => HNB3.out gb e rfl)).but b7 (fun e => by
          rcases HSUB5.out gb e with e1 | e1
          · exact HNB3.out gb e1 rfl
          · have := HB3.out.lt; omega)
        have b07 : W7.cell? ⟨gb, 0, none⟩ = some (.int .i64 xt) := HBX7.out.cell 0
        -- what was told so far
        have hbw : But (RS gx vh vq) w W7 := by
          refine ((HI.out.but.trans (HG2.out.mono (fun _ _ h => h.elim))).trans (HG3.out.mono (fun _ _ h => h.elim))).then (HBUT5.out.then b7 (fun j hj e => (HSUB5.out j e).resolve_right (by omega))) (fun j hj e => (HI.out.sub j e).resolve_right (by omega))
        have hsw : ∀ b, RS gx v2 (.slice a7 (i + (n - (i + 1))) c7) b → RS gx vh vq b ∨ w.heap.size ≤ b := fun b hb => by
          have z1 := HI.out.but.size
          have z2 := HG2.out.size
          have z3 := HG3.out.size
          have z5 := HBUT5.out.size
          rcases s7 b hb with e | e
          · rcases HSUB5.out b e with e1 | e1
            · exact HI.out.sub b e1
            · exact .inr (by omega)
          · exact .inr (by omega)
        have hon : ∀ b, out.ownBlock = some b → b < w3.heap.size ∧ ¬ RS gx (.slice ha m hc) (.slice (some ⟨g, 0, none⟩) n qc) b := fun b hb => by
          have z1 := own_lt HI.out.row hb
          have z2 := HG2.out.size
          have z3 := HG3.out.size
          exact ⟨by omega, (HI.out.new b hb).2⟩
        have hrowO : W7.ownsRow 0 3 1 out G.length (numv (G.map (·.1))) := by
          refine ownsRow_but (ownsRow_but (ownsRow_grow (ownsRow_grow HI.out.row HG2.out) HG3.out) HBUT5.out (fun j hj => (hon j hj).2)) b7 (fun j hj e => ?_)
          rcases HSUB5.out j e with e1 | e1
          · exact (hon j hj).2 e1
          · have := (hon j hj).1; omega
        have hnewO : ∀ b, out.ownBlock = some b → w.heap.size ≤ b ∧ ¬ RS gx v2 (.slice a7 (i + (n - (i + 1))) c7) b := fun b hb => by
          refine ⟨(HI.out.new b hb).1, fun e => ?_⟩
          have z5 := HBUT5.out.size
          rcases s7 b e with e1 | e1
          · rcases HSUB5.out b e1 with e2 | e2
            · exact (hon b hb).2 e2
            · have := (hon b hb).1; omega
          · have := (hon b hb).1; omega
        have HRT7 := Hid.mk' r7
        have HBW := Hid.mk' hbw
        have HSW := Hid.mk' hsw
        have HROWO := Hid.mk' hrowO
        have HNEWO := Hid.mk' hnewO
        have HALN : Hid (Grow W7 (W7.alloc (.cells #[.int .i64 xt] 3))) := (But.refl _ W7).alloc _
        have HXT : Hid (i64 xt) := Hid.mk' (HOK1.out.iq _ (List.mem_of_getElem? HX.out)).1
        have HNUM := Hid.mk' (num1 W7 xt HXT.out)
        have HLEN7 := Hid.mk' hlen7
        have HWS : Hid (w.heap.size ≤ W7.heap.size) := Hid.mk' hbw.size
        clear hap hap' hg7 hrow hv7 hgb7 r7 b7 s7 hW7 hbw hsw hon hrowO hnewO hlen7 d1 d7 f7 HRT6 HBK6 HG6 HR6 HV6 HC1 HC2 HL1 HL2 HCUT HAA HRT5 HBUT5 HSUB5
        go_wp2_with (first
          | (refine wpList_someH rfl (exec_appendN (v := out) (u := .slice (some ⟨W7.heap.size, 0, none⟩) 1 1) (n := G.length) (xs := numv (G.map (·.1))) (ks := [xt]) rfl rfl (ownsRow_grow HROWO.out HALN.out) rfl HNUM.out (by have := HNB.out; simp; omega)) ?_; intro v8 w8 hap8)
          | fail)
        have hap9 : Appd (W7.alloc (.cells #[.int .i64 xt] 3)) w8 3 1 out v8 (G.length + 1) (numv (G.map (·.1)) ++ numv [xt]) := hap8
        have z8 : W7.heap.size ≤ (W7.alloc (.cells #[.int .i64 xt] 3)).heap.size := HALN.out.size
        have hbo : ∀ b, RS gx v2 (.slice a7 (i + (n - (i + 1))) c7) b → ¬ out.ownBlock = some b := fun b hb e => (HNEWO.out b e).2 hb
        have hI8 : StI w w8 gx vh vq s v8 0 (G ++ [(xt, xk, xa)]) (s1.grant (xt, xk, xa)) v2 (.slice a7 (i + (n - (i + 1))) c7) := by
          refine ⟨HSTP.out, ?_, (HBW.out.trans (HALN.out.mono (fun _ _ h => h.elim))).then hap9.but (fun j hj e => absurd (HNEWO.out j e).1 (by omega)), HSW.out, ?_, fun b hb => ?_, fun p hp => absurd hp (by omega)⟩
          · rw [show s1.grant (xt, xk, xa) = Ls.mk (s1.has ++ [(xt, xk, xa)]) (s1.q.take i ++ s1.q.drop (i + 1)) from by rw [← HER.out]; rfl]
            exact (HRT7.out.grow HALN.out).but hap9.but hbo
          · rw [show (G ++ [(xt, xk, xa)]).length = G.length + 1 by simp, show numv ((G ++ [(xt, xk, xa)]).map (·.1)) = numv (G.map (·.1)) ++ numv [xt] by simp [numv]]
            exact hap9.own
          · rcases hap9.at' with e | e
            · exact HNEWO.out b (by rw [← e]; exact hb)
            · rw [e] at hb
              have e3 := Option.some.inj hb
              have := HWS.out
              refine ⟨by omega, fun e2 => ?_⟩
              have := HRT7.out.lt e2
              omega
        refine ⟨⟨0, v8, _, _, _, _, rfl, by go_num, Nat.zero_le _, hI8⟩, ?_⟩
        have hl8 : lenQ w8 gx = i + (n - (i + 1)) := by
          unfold lenQ
          rw [show w8.cell? ⟨gx, 1, none⟩ = some (.slice a7 (i + (n - (i + 1))) c7) from hI8.rt.blk.cell 1]
        rw [hl8, HLQ.out]
        simp only [intOf]
        have := HNB.out
        have := HIL.out
        have := HN.out
        omega
    · have hE : s1.q.length ≤ i := by omega
      have HSB := Hid.mk' (HI.out.stb hE)
      have hnu : Nums wr out (G.map (·.1)) := Nums.ofRow (by rw [List.length_map]; exact HI.out.row) (fun x hx => by
        obtain ⟨y, hy, rfl⟩ := List.mem_map.1 hx
        exact (HOK.out.iq y ((steps_q HI.out.st).2 y hy)).1) (by rw [List.length_map]; have := HNB.out; omega)
      have HRIS := Hid.mk' (rising_any hnu (by rw [List.length_map]; have := HNB.out; omega))
      clear hnu hE hn hil
      go_wp2_with fail
      refine Calls.mono HRIS.out ?_
      rintro e w9 ⟨v9, rfl, h9, hv9, hg9⟩
      have HFIN : Hid (SeTo w gx vh vq s (.returned v9) w9) := ⟨v9, G, s1, rfl, HI.out.st, HSB.out, ⟨_, _, HI.out.rt.grow hg9, HI.out.but.trans (hg9.mono (fun _ _ h => h.elim)), HI.out.sub⟩, h9, fun b hb => Nat.le_trans HI.out.but.size (hv9 b hb)⟩
      clear h9 hv9 hg9 c1
      go_wp2
      go_ret
      exact HFIN.out
end
end Go.Proofs.Ytgldkckhliklhaa
