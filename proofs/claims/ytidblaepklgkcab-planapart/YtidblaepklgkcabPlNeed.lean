/- plan: Need. -/
import Derived.Test.YtidblaepklgkcabPlPath
import Derived.Test.YtidblaepklgkcabRanges
namespace Go.Proofs.Ytidblaepklgkcab
open Go.RowKit Go.Maps

def ins (S : List Int) (x : Int) : List Int := if x ∈ S then S else S ++ [x]
def adds (S ds : List Int) : List Int := ds.foldl ins S
theorem adds_more (S ds : List Int) (x : Int) : adds S (ds ++ [x]) = ins (adds S ds) x := by unfold adds; rw [List.foldl_append]; rfl
theorem mem_ins {S : List Int} {x y : Int} : y ∈ ins S x ↔ y ∈ S ∨ y = x := by
  unfold ins
  split
  · rename_i h
    exact ⟨.inl, fun h2 => h2.elim id (fun e => by rw [e]; exact h)⟩
  · simp
theorem ins_nodup {S : List Int} (h : S.Nodup) (x : Int) : (ins S x).Nodup := by
  unfold ins
  split
  · exact h
  · rename_i hx
    rw [List.nodup_append]
    refine ⟨h, by simp, fun a ha b hb e => ?_⟩
    simp at hb
    subst hb
    exact hx (by rw [← e]; exact ha)
abbrev unit0 : Int → Value := fun _ => .agg #[]
/-- What memory is amid Need: the map of what is written so far, in the variable g. -/
structure NeedI (g : Nat) (F : Nat → Prop) (w : World) (S : List Int) : Prop where
  ex : ∃ bm, Blk w g 46 [.map (some bm)] ∧ MapOf 3 w bm iv unit0 S ∧ ¬ F bm ∧ bm ≠ g
  nd : S.Nodup
  nf : ¬ F g
  lt : ∀ b, F b → b < w.heap.size
theorem NeedI.same {g : Nat} {F : Nat → Prop} {w w' : World} {S : List Int} (h : NeedI g F w S) (k : Grow w w') : NeedI g F w' S := by
  obtain ⟨bm, h1, h2, h3⟩ := h.ex
  exact ⟨⟨bm, h1.but k (fun h => h), h2.grow k, h3⟩, h.nd, h.nf, fun b hb => Nat.lt_of_lt_of_le (h.lt b hb) k.size⟩
theorem NeedI.less {g : Nat} {F F' : Nat → Prop} {w : World} {S : List Int} (h : NeedI g F' w S) (k : ∀ b, F b → F' b) : NeedI g F w S := by
  obtain ⟨bm, h1, h2, h3, h4⟩ := h.ex
  exact ⟨⟨bm, h1, h2, fun hf => h3 (k _ hf), h4⟩, h.nd, fun hf => h.nf (k _ hf), fun b hb => h.lt b (k b hb)⟩
theorem NeedI.new {g : Nat} {F : Nat → Prop} {w w' : World} {S : List Int} (h : NeedI g F w S) (k : Grow w w') : NeedI g (FF F w w') w' S := by
  obtain ⟨bm, h1, h2, h3, h4⟩ := h.ex
  refine ⟨⟨bm, h1.but k (fun h => h), h2.grow k, fun hf => ?_, h4⟩, h.nd, fun hf => ?_, fun b hb => ?_⟩
  · rcases hf with hf | hf
    · exact h3 hf
    · have := h2.lt
      omega
  · rcases hf with hf | hf
    · exact h.nf hf
    · have := h1.lt
      omega
  · rcases hb with hb | hb
    · exact Nat.lt_of_lt_of_le (h.lt b hb) k.size
    · exact hb.2
/-- A key is put into the map. -/
theorem map_ins {w : World} {bm : Nat} {S : List Int} (h : MapOf 3 w bm iv unit0 S) {x : Int} (hx : i64 x) : ∃ w', (Instr.mapUpdate 46 (.map (some bm)) (iv x) (.agg #[])).run Try.prog w = .ok () w' ∧ MapOf 3 w' bm iv unit0 (ins S x) ∧ But (· = bm) w w' := by
  have ht : Try.prog.underlying 46 = some (.map 3 47) := by kernel_rfl
  unfold ins
  by_cases hm : x ∈ S
  · rw [if_pos hm]
    obtain ⟨M, h1, h2, h3⟩ := h
    obtain ⟨w', M', hr, hM, hb, hs, hin, hot⟩ := h1.put (t := 46) (v := .agg #[]) keyIa ht (keyOfIa x hx)
    refine ⟨w', hr, ⟨M', hM, fun p hp => ?_, fun y hy => ?_⟩, hb⟩
    · by_cases hk : p.1 = iv x
      · have hpv : p.2 = .agg #[] := hM.uniq (k := iv x) (by rw [← hk]; exact hp) hin
        exact ⟨x, hm, Prod.ext hk hpv⟩
      · exact h2 p ((hot p.1 p.2 hk).1 hp)
    · by_cases e : y = x
      · rw [e]; exact hin
      · exact (hot _ _ (fun h => e (iv_inj h))).2 (h3 y hy)
  · rw [if_neg hm]
    obtain ⟨w', hr, h1, h2, -⟩ := h.put (t := 46) keyIa ht x (keyOfIa x hx) (fun y hy e => hm (by rw [← iv_inj e]; exact hy))
    exact ⟨w', hr, h1, h2⟩
theorem map_look {w : World} {bm : Nat} {S : List Int} (h : MapOf 3 w bm iv unit0 S) {x : Int} (hx : i64 x) : (Instr.lookup 46 (.map (some bm)) (iv x) true).run Try.prog w = .ok (.tuple #[.agg #[], .bool (decide (x ∈ S))]) w := by
  have ht : Try.prog.underlying 46 = some (.map 3 47) := by kernel_rfl
  have hz : ∀ w, (zeroValue 47).run Try.prog w = .ok (.agg #[]) w := fun w => by kernel_rfl
  have hl := MapOf.look (t := 46) keyIa ht hz h (keyOfIa x hx) true
  by_cases hm : x ∈ S
  · rw [decide_eq_true hm]
    exact hl.1 x hm rfl
  · rw [decide_eq_false hm]
    exact hl.2 (fun y hy e => hm (by rw [← iv_inj e]; exact hy))
set_option maxRecDepth 100000 in
theorem need1_any (g : Nat) (F : Nat → Prop) (w : World) (S : List Int) (x : Int) (h : NeedI g F w S) (hx : i64 x) : Calls Try.prog 18 #[.int .i64 x, ptr g] w fun e w' => e = .returned (.bool (!decide (x ∈ S))) ∧ NeedI g F w' (ins S x) ∧ But (fun b => ¬ F b) w w' := by
  obtain ⟨bm, hb, hm, hn, hg⟩ := h.ex
  have c0 : w.cell? ⟨g, 0, none⟩ = some (.map (some bm)) := hb.cell 0
  have HLK := Hid.mk' (map_look hm hx)
  obtain ⟨W, hW⟩ : ∃ W, W = w.alloc (.cells #[] 47) := ⟨_, rfl⟩
  have hgw : Grow w W := by rw [hW]; exact (But.refl _ w).alloc _
  obtain ⟨w', hr, hm', hbt⟩ := map_ins (hm.grow hgw) hx
  have HR := Hid.mk' hr
  have c1 : W.cell? ⟨g, 0, none⟩ = some (.map (some bm)) := grow_cell hgw c0
  have hk : But (fun b => ¬ F b) w w' := (hgw.mono (fun _ _ h => h.elim)).then hbt (fun i _ e => by rw [e]; exact hn)
  have HN : Hid (NeedI g F w' (ins S x)) := ⟨⟨bm, (hb.but hgw (fun h => h)).but hbt (fun e => hg e.symm), hm', hn, hg⟩, ins_nodup h.nd x, h.nf, fun b hb => Nat.lt_of_lt_of_le (h.lt b hb) hk.size⟩
  have HK := Hid.mk' hk
  have HW := Hid.mk' hW
  generalize decide (x ∈ S) = b at HLK ⊢
  clear h hb hm hn hg hW hgw hr hm' hbt hk
  go_enter Try.func18, Try.ntmps18
  go_upto_region 2 with (first
    | (refine wpList_runH rfl (exec_lookup rfl rfl rfl HLK.out) ?_)
    | fail)
  rw [← HW.out]
  clear HW HLK c0
  go_wp2_with (first
    | (refine wpList_skipH rfl (exec_mapUpdate rfl rfl rfl rfl HR.out) ?_)
    | fail)
  go_ret
  exact ⟨rfl, HN.out, HK.out⟩
theorem ent2 (a : Array Value) (w : World) : (callFunc 18 a).run Try.prog w = .ok (.enter 18 a) w := by
  kernel_rfl
/-- Whether a path goes on. -/
def more (S ds : List Int) (y : Int) : Bool := !decide (y ∈ adds S ds)
def addP (p : Pn) (S : List Int) (x : Int) : List Int := if p.has x then adds (ins S x) (runB (more (ins S x)) [] (p.path x)) else S
theorem fold_take {α β : Type} (f : α → β → α) (a : α) (l : List β) (i : Nat) (x : β) (h : l[i]? = some x) : (l.take (i + 1)).foldl f a = f ((l.take i).foldl f a) x := by
  have h3 := List.getElem?_eq_some_iff.1 h
  rw [List.take_succ_eq_append_getElem h3.1, List.foldl_append, h3.2]; rfl
set_option maxRecDepth 100000 in
set_option maxHeartbeats 2000000 in
theorem need_any (w : World) (p : Pn) (v u : Value) (xs : List Int) (hv : Nums w v p.levels) (hlen : p.levels.length ≤ 100000) (hu : Nums w u xs) : Calls Try.prog 11 #[pval p v, u] w fun e w' => e = .returned (.int .i64 ((xs.foldl (addP p) []).length : Int)) ∧ Grow w w' := by
  obtain ⟨W, gp, hbx⟩ := box_pl w p v
  have HW := Hid.mk' hbx.ew
  have HGP := Hid.mk' hbx.eg
  have HBX := Hid.mk' hbx
  have HV := Hid.mk' hv
  have HLN := Hid.mk' hlen
  have HU := Hid.mk' hu
  obtain ⟨ua, uc, hue⟩ := hu.len
  obtain ⟨n, hn⟩ : ∃ n, n = xs.length := ⟨_, rfl⟩
  rw [← hn] at hue
  have HNN := Hid.mk' hn
  have hni : (n : Int) ≤ 140737488355328 := by have := hu.2.1; omega
  obtain ⟨bm, hbm⟩ : ∃ b, b = W.heap.size := ⟨_, rfl⟩
  obtain ⟨W2, hW2⟩ : ∃ W2, W2 = W.alloc (.map #[] 0) := ⟨_, rfl⟩
  have hM2 : MapOf 3 W2 bm iv unit0 [] := by rw [hW2]; exact MapOf.new bm hbm.symm iv unit0
  have hg2 : Grow W W2 := by rw [hW2]; exact (But.refl _ W).alloc _
  obtain ⟨g, hg⟩ : ∃ g, g = W2.heap.size := ⟨_, rfl⟩
  obtain ⟨W3, hW3⟩ : ∃ W3, W3 = W2.alloc (.cells #[.map (some bm)] 46) := ⟨_, rfl⟩
  have hg3 : Grow W2 W3 := by rw [hW3]; exact (But.refl _ W2).alloc _
  have HB3 : Hid (Blk W3 g 46 [.map (some bm)]) := Hid.mk' (by rw [hW3]; exact Blk.new (L := [.map (some bm)]) hg.symm)
  have HMM := Hid.mk' (mkM W 46)
  rw [← hbm, ← hW2] at HMM
  have HG3 := Hid.mk' hg3
  have HG2 := Hid.mk' hg2
  have HM3 := Hid.mk' (hM2.grow hg3)
  have HLT : Hid (W.heap.size ≤ bm ∧ bm < g ∧ g < W3.heap.size) := Hid.mk' ⟨by omega, by have := hM2.lt; omega, HB3.out.lt⟩
  have HGE := Hid.mk' hg
  have HW3 := Hid.mk' hW3
  unfold pval
  obtain ⟨N, hN⟩ : ∃ N, N = (pcells p v).toArray := ⟨_, rfl⟩
  rw [← hN] at HW ⊢
  have HNE := Hid.mk' hN
  clear hbx hN hv hlen hu hn hbm hW2 hM2 hg2 hg hW3 hg3
  subst hue
  go_enter Try.func11, Try.ntmps11
  go_upto_region 1 with fail
  rw [← HW.out, ← HGP.out]
  clear HW HGP
  go_upto_region 2 with (first
    | (refine wpList_runH rfl (exec_mkMap rfl HMM.out) ?_)
    | fail)
  rw [← HW3.out, ← HGE.out]
  have HI0 : Hid (NeedI g (fun b => b < W.heap.size) W3 []) := ⟨⟨bm, HB3.out, HM3.out, (by have := HLT.out; omega), (by have := HLT.out; omega)⟩, List.nodup_nil, (by have := HLT.out; omega), fun b hb => by have := HLT.out; omega⟩
  have HK0 : Hid (But (fun b => ¬ b < W.heap.size) W W3) := (HG2.out.trans HG3.out).mono (fun _ _ h => h.elim)
  clear HW3 HGE HB3 HM3 HG2 HG3 HMM HLT
  go_wp2
  go_loopw [11] (fun iv' wr => ∃ i : Nat, i ≤ n ∧ iv' = .int .i64 i ∧ NeedI g (fun b => b < W.heap.size) wr ((xs.take i).foldl (addP p) []) ∧ But (fun b => ¬ b < W.heap.size) W wr) (fun iv' _ => n - (intOf iv').toNat)
  case atStart => exact ⟨0, Nat.zero_le _, rfl, HI0.out, HK0.out⟩
  case round =>
    clear HI0 HK0
    obtain ⟨i, hin, rfl, hI, hK⟩ := hrel
    have HI := Hid.mk' hI
    have HK := Hid.mk' hK
    clear hI hK
    by_cases hlt : i < n
    · have hlti : (i : Int) < (n : Int) := by omega
      have hgw : ∀ wz, But (fun b => ¬ b < W.heap.size) W wz → Grow w wz := fun wz k => HBX.out.grow.then k (fun j hj h => h (Nat.lt_of_lt_of_le hj HBX.out.grow.size))
      obtain ⟨bb, o1, k1, e3, -, -, hc1⟩ := (HU.out.grow (hgw wr HK.out)).at (by have := HNN.out; omega)
      simp only [Value.slice.injEq] at e3
      obtain ⟨rfl, -, rfl⟩ := e3
      obtain ⟨x, hx⟩ : ∃ x, x = xs.getD i 0 := ⟨_, rfl⟩
      have cu := hc1 i (by have := HNN.out; omega)
      rw [← hx] at cu
      have hxg : xs[i]? = some x := by
        have h9 : i < xs.length := by have := HNN.out; omega
        rw [hx, List.getD_eq_getElem?_getD, List.getElem?_eq_getElem h9]; rfl
      have HXI : Hid (i64 x) := HU.out.1 x (List.mem_of_getElem? hxg)
      have HFT := Hid.mk' (fold_take (addP p) [] xs i x hxg)
      have HBK : Hid (∀ wz, But (fun b => ¬ b < W.heap.size) W wz → ∀ j u, (pcells p v)[j]? = some u → wz.cell? ((⟨gp, 0, none⟩ : Addr).add j) = some u) := fun wz k j u hj => by
        rw [addr_add, Nat.zero_add, (HBX.out.blk.but k (fun h => h HBX.out.blk.lt)).cell j]; exact hj
      have HCW := Hid.mk' (HBK.out wr HK.out)
      have HNV : Hid (∀ wz, But (fun b => ¬ b < W.heap.size) W wz → Nums wz v p.levels) := fun wz k => HV.out.grow (hgw wz k)
      have HTH := Hid.mk' (there_any wr p v x)
      generalize hS : (xs.take i).foldl (addP p) [] = S at HI HFT
      have HLT := Hid.mk' hlt
      clear hgw hc1 hx hxg hS hin hlt
      cases hh : p.has x with
      | false =>
        rw [hh] at HTH
        have HFE : Hid ((xs.take (i + 1)).foldl (addP p) [] = S) := Hid.mk' (by rw [HFT.out]; unfold addP; rw [hh]; rfl)
        clear hh
        go_wp2_with (first
          | (refine wpList_load_cells rfl _ _ rfl ⟨gp, 0, none⟩ rfl (pcells p v) _ HCW.out Try.underlying24 rfl iPl ?_)
          | fail)
        refine Calls.mono HTH.out ?_
        rintro e w5 ⟨rfl, hg5⟩
        have HI5 := Hid.mk' (HI.out.same hg5)
        have HK5 := Hid.mk' (HK.out.then hg5 (fun _ _ h => h.elim))
        clear hg5
        go_wp2
        exact ⟨⟨i + 1, by have := HLT.out; omega, by go_num, by rw [HFE.out]; exact HI5.out, HK5.out⟩, by simp [intOf]; have := HLT.out; omega⟩
      | true =>
        rw [hh] at HTH
        have HFE : Hid ((xs.take (i + 1)).foldl (addP p) [] = adds (ins S x) (runB (more (ins S x)) [] (p.path x))) := Hid.mk' (by rw [HFT.out]; unfold addP; rw [hh]; rfl)
        clear hh
        go_wp2_with (first
          | (refine wpList_load_cells rfl _ _ rfl ⟨gp, 0, none⟩ rfl (pcells p v) _ HCW.out Try.underlying24 rfl iPl ?_)
          | fail)
        refine Calls.mono HTH.out ?_
        rintro e w5 ⟨rfl, hg5⟩
        have hI5 := HI.out.same hg5
        have hK5 := HK.out.then hg5 (fun _ _ h => h.elim)
        obtain ⟨b5, hb5, hm5, hn5, hg5'⟩ := hI5.ex
        have c5 : w5.cell? ⟨g, 0, none⟩ = some (.map (some b5)) := hb5.cell 0
        obtain ⟨w6, hr6, hm6, hbt6⟩ := map_ins hm5 HXI.out
        have HR6 := Hid.mk' hr6
        have hK6 : But (fun b => ¬ b < W.heap.size) W w6 := hK5.then hbt6 (fun j _ e => by rw [e]; exact hn5)
        have hI6 : NeedI g (fun b => b < W.heap.size) w6 (ins S x) := ⟨⟨b5, hb5.but hbt6 (fun e => hg5' e.symm), hm6, hn5, hg5'⟩, ins_nodup hI5.nd x, hI5.nf, fun b hb => Nat.lt_of_lt_of_le hb hK6.size⟩
        have c6 : w6.cell? ⟨g, 0, none⟩ = some (.map (some b5)) := (hb5.but hbt6 (fun e => hg5' e.symm)).cell 0
        have HCW6 := Hid.mk' (HBK.out w6 hK6)
        have HCL := Hid.mk' (climb_any w6 p v x 18 g (fun F w ds => NeedI g F w (adds (ins S x) ds)) (more (ins S x)) (fun b => b < W.heap.size) (HNV.out w6 hK6) HLN.out (fun h0 b hb => Nat.lt_of_lt_of_le (HV.out.low h0 b hb) HBX.out.grow.size) hI6
          ent2 (fun F w w' ds h k => h.same k) (fun F w w' ds h k => h.new k) (fun F w ds x h hx _ => by rw [adds_more]; exact need1_any g F w _ x h hx))
        have HK6 := Hid.mk' hK6
        clear hg5 hI5 hK5 hb5 hm5 hn5 hg5' hr6 hm6 hbt6 hK6 hI6 HTH HCW
        go_wp2_with (first
          | (refine wpList_skipH rfl (exec_mapUpdate rfl rfl rfl rfl HR6.out) ?_)
          | (refine wpList_load_cells rfl _ _ rfl ⟨gp, 0, none⟩ rfl (pcells p v) _ HCW6.out Try.underlying24 rfl iPl ?_)
          | fail)
        refine Calls.mono HCL.out ?_
        rintro e w7 ⟨rfl, ⟨F', hF', hI7⟩, hb7⟩
        have HI7 := Hid.mk' (hI7.less hF')
        have HK7 := Hid.mk' (HK6.out.trans hb7)
        clear hF' hI7 hb7 HCL c5 c6
        go_wp2
        exact ⟨⟨i + 1, by have := HLT.out; omega, by go_num, by rw [HFE.out]; exact HI7.out, HK7.out⟩, by simp [intOf]; have := HLT.out; omega⟩
    · have hie : i = n := by omega
      have hlti : ¬ (i : Int) < (n : Int) := by omega
      have hS : (xs.take i).foldl (addP p) [] = xs.foldl (addP p) [] := by rw [hie, HNN.out, List.take_of_length_le (Nat.le_refl _)]
      rw [hS] at HI
      obtain ⟨b5, hb5, hm5, -, -⟩ := HI.out.ex
      have c5 : wr.cell? ⟨g, 0, none⟩ = some (.map (some b5)) := hb5.cell 0
      have HLM := Hid.mk' (fun ty => hm5.len (t := 46) (et := 47) (by kernel_rfl) (nodup_map (fun a _ b _ e => iv_inj e) HI.out.nd) ty)
      have HGG : Hid (Grow w wr) := HBX.out.grow.then HK.out (fun j hj h => h (Nat.lt_of_lt_of_le hj HBX.out.grow.size))
      clear hie hS hb5 hm5 hin hlt
      go_wp2_with (first
        | (refine wpList_runH rfl (exec_lenM rfl rfl (HLM.out _)) ?_)
        | fail)
      go_ret
      exact ⟨rfl, HGG.out⟩
end Go.Proofs.Ytidblaepklgkcab
