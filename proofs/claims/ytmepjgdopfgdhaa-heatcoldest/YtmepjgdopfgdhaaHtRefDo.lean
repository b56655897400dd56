/- The reference: Drop, Touch, Coldest. -/
import Derived.Test.YtmepjgdopfgdhaaHtRef
namespace Go.Proofs.Ytmepjgdopfgdhaa
open Go.RowKit

theorem wpList_someH {ops : Array Oper} {rest : List Oper} {o : Oper} {a : Act} {w : World} {Q : Exit → Act → World → Prop} {Φ : Value → World → Prop} (hgd : o.guard = none) (hr : ∃ v w', (execOp a.eval o).run Try.prog w = .ok (.value v) w' ∧ Φ v w') (h : ∀ v w', Φ v w' → wpList Try.prog ops Q rest (a.put o.dst v) w') : wpList Try.prog ops Q (o :: rest) a w := by
  obtain ⟨v, w', h1, h2⟩ := hr
  exact wpList_runH hgd h1 (h v w' h2)
theorem infSp : (Try.prog.info? 56).map (fun i => (i.zero, i.size, i.bytes)) = some (some (.agg #[.int .i64 0, .float .f64 0, .int .i64 0]), 3, 24) := by kernel_rfl
theorem iSp : (Try.prog.info? 56).map (·.size) = some 3 := by kernel_rfl
theorem spc_one (e : Sp) : ∀ u ∈ spc e, u.oneCell' = true := by
  intro u hu
  unfold spc at hu
  rcases List.mem_cons.1 hu with rfl | hu
  · rfl
  rcases List.mem_cons.1 hu with rfl | hu
  · rfl
  rcases List.mem_cons.1 hu with rfl | hu
  · rfl
  · cases hu
/-- What a call on the reference leaves: its row is new. -/
structure RhTo (w : World) (gx half now : Nat) (L : List Sp) (w' : World) : Prop where
  ex : ∃ v, RhM w' gx v half now L ∧ ∀ k, v.ownBlock = some k → w.heap.size ≤ k
  but : But (· = gx) w w'
section
variable {w w' : World} {gx half now : Nat} {v : Value} {L : List Sp} {R : Nat → Prop}
theorem RhTo.grow {w'' : World} (h : RhTo w gx half now L w') (k : Grow w' w'') : RhTo w gx half now L w'' := by
  obtain ⟨v, h1, h2⟩ := h.ex
  exact ⟨⟨v, h1.grow k, h2⟩, h.but.trans (k.mono (fun _ _ h => h.elim))⟩
set_option maxRecDepth 100000 in
set_option maxHeartbeats 1000000 in
theorem rdrop_any (h : RhM w gx v half now L) (K : Int) : Calls Try.prog 12 #[.pointer (some ⟨gx, 0, none⟩), .int .i64 K] w fun e w' => e = .returned (.tuple #[]) ∧ RhTo w gx half now (L.filter (fun e => !(e.1 == K))) w' := by
  have HH := Hid.mk' h
  obtain ⟨ao, cap, rfl⟩ := h.len
  obtain ⟨n, hn⟩ : ∃ n, n = L.length := ⟨_, rfl⟩
  have hbk := h.blk
  rw [← hn] at hbk
  have HBK := Hid.mk' hbk
  have HN := Hid.mk' hn
  have hnb : (n : Int) ≤ 1000000 := by have := h.ln; have := h.nw; omega
  have hgx := h.blk.lt
  clear h hn hbk
  go_enter Try.func12, Try.ntmps12
  go_wp2
  go_loopw [4, 5] (fun rv iv wr => ∃ (i : Nat) (r : Value), i ≤ n ∧ iv = .int .i64 i ∧ r = rv ∧ wr.ownsRow 0 56 3 r ((L.take i).filter (fun e => !(e.1 == K))).length (((L.take i).filter (fun e => !(e.1 == K))).flatMap spc) ∧ (∀ k, r.ownBlock = some k → w.heap.size ≤ k) ∧ Grow w wr) (fun _ iv _ => n - (intOf iv).toNat)
  case atStart => exact ⟨0, _, Nat.zero_le _, rfl, rfl, by rw [List.take_zero]; exact World.ownsRow_nil _ _ _ _, (fun k hk => by cases hk), But.refl _ _⟩
  case round =>
    rename_i rv
    obtain ⟨i, r, hin, rfl, rfl, hT, hV, hG⟩ := hrel
    have c2 : wr.cell? ⟨gx, 2, none⟩ = some (.slice ao n cap) := (HBK.out.but hG (fun h => h)).cell 2
    have HT := Hid.mk' hT
    have HV := Hid.mk' hV
    have HG := Hid.mk' hG
    by_cases hlt : i < n
    · have hlti : (i : Int) < (n : Int) := by omega
      have hiL : i < L.length := by rw [← HN.out]; exact hlt
      have HNX : Hid ((L.take (i + 1)).filter (fun e => !(e.1 == K)) = (L.take i).filter (fun e => !(e.1 == K)) ++ (if (L.getD i (0, 0, 0)).1 == K then [] else [L.getD i (0, 0, 0)])) := by
        show _ = _
        rw [List.take_succ_eq_append_getElem hiL, List.filter_append, List.getD_eq_getElem?_getD, List.getElem?_eq_getElem hiL]
        congr 1
        rw [List.filter_cons]
        simp only [Option.getD_some]
        cases (L[i].1 == K) <;> rfl
      obtain ⟨g, cp, e1, hcell⟩ := (HH.out.grow hG).at hiL
      simp only [Value.slice.injEq] at e1
      obtain ⟨rfl, -, rfl⟩ := e1
      obtain ⟨e, he⟩ : ∃ e, e = L.getD i (0, 0, 0) := ⟨_, rfl⟩
      rw [← he] at hcell HNX
      obtain ⟨q, b, t⟩ := e
      have c3 : wr.cell? ⟨g, i * 3, none⟩ = some (.int .i64 q) := hcell 0 _ rfl
      have HCW : Hid (∀ c u, (spc (q, b, t))[c]? = some u → wr.cell? ((⟨g, i * 3, none⟩ : Addr).add c) = some u) := fun c u hc => by
        rw [addr_add]; exact hcell c u hc
      clear hT hV hG hiL he hcell
      by_cases hq : q = K
      · have hqi : (q != K) = false := by simpa using hq
        have HN2 : Hid ((L.take (i + 1)).filter (fun e => !(e.1 == K)) = (L.take i).filter (fun e => !(e.1 == K))) := by show _ = _; rw [HNX.out, if_pos (by simpa using hq), List.append_nil]
        clear hq
        go_wp2
        exact ⟨⟨i + 1, r, by omega, by go_num, rfl, by rw [HN2.out]; exact HT.out, HV.out, HG.out⟩, by simp [intOf]; omega⟩
      · have hqi : (q != K) = true := by simpa using hq
        have HN2 : Hid ((L.take (i + 1)).filter (fun e => !(e.1 == K)) = (L.take i).filter (fun e => !(e.1 == K)) ++ [(q, b, t)]) := by show _ = _; rw [HNX.out, if_neg (by simpa using hq)]
        obtain ⟨F, hF⟩ : ∃ F, F = (L.take i).filter (fun e => !(e.1 == K)) := ⟨_, rfl⟩
        rw [← hF] at HT HN2
        have HFL : Hid (F.length ≤ 1000000 - 1) := by
          show _ ≤ _
          have h5 : F.length ≤ (L.take i).length := by rw [hF]; exact List.length_filter_le _ _
          rw [List.length_take] at h5
          have := HH.out.ln
          have := HH.out.nw
          have := HN.out
          omega
        have HAL : Hid (Grow wr (wr.alloc (.cells #[.int .i64 q, .float .f64 b, .int .i64 (t : Int)] 56))) := (But.refl _ wr).alloc _
        have HBL : Hid (Blk (wr.alloc (.cells #[.int .i64 q, .float .f64 b, .int .i64 (t : Int)] 56)) wr.heap.size 56 (spc (q, b, t))) := Blk.new (L := spc (q, b, t)) rfl
        clear hq hF HNX
        go_wp2_with (first
          | (refine wpList_load_cells rfl _ _ rfl ⟨g, i * 3, none⟩ rfl (spc (q, b, t)) _ HCW.out Try.underlying56 rfl iSp ?_)
          | (refine wpList_runH rfl (exec_row1 Try.underlying29 infSp (by decide) (by decide) rfl rfl rfl) ?_)
          | (refine wpList_someH rfl (exec_append (v := r) (n := F.length) (xs := F.flatMap spc) (news := spc (q, b, t)) Try.underlying29 infSp rfl (by decide) rfl rfl (ownsRow_grow HT.out HAL.out) rfl rfl (fun j u hj => HBL.out.cells0 j u hj) (spc_one _) (by have := HFL.out; omega) (by decide)) ?_; intro v4 w4 hap)
          | fail)
        refine ⟨⟨i + 1, v4, by omega, by go_num, rfl, ?_, fun k hk => ?_, ?_⟩, by simp [intOf]; omega⟩
        · rw [HN2.out, List.length_append, List.length_singleton, List.flatMap_append, show ([(q, b, t)] : List Sp).flatMap spc = spc (q, b, t) by simp]
          exact hap.own
        · rcases hap.at' with e | e
          · exact HV.out k (by rw [← e]; exact hk)
          · rw [e] at hk
            cases hk
            exact Nat.le_trans HG.out.size HAL.out.size
        · exact (HG.out.trans HAL.out).then hap.but (fun j hj e => by have := HV.out j e; omega)
    · have hlti : ¬ ((i : Int) < (n : Int)) := by omega
      have hT2 : wr.ownsRow 0 56 3 r (L.filter (fun e => !(e.1 == K))).length ((L.filter (fun e => !(e.1 == K))).flatMap spc) := by
        rw [List.take_of_length_le (by have := HN.out; omega)] at hT
        exact hT
      have hbk := HBK.out.but hG (fun h => h)
      have f2 : wr.frozen? ⟨gx, 2, none⟩ = false := hbk.free 2
      have hbut : But (· = gx) wr (wr.setCell ⟨gx, 2, none⟩ r) := But.set1 _ _ _ _
      have HFIN : Hid (RhTo w gx half now (L.filter (fun e => !(e.1 == K))) (wr.setCell ⟨gx, 2, none⟩ r)) := by
        have hle := List.length_filter_le (fun e : Sp => !(e.1 == K)) L
        refine ⟨⟨r, ⟨hbk.set 2 r, ⟨ownsRow_but hT2 hbut (fun j hj e => by have := hV j hj; omega), fun k hk e => by have := hV k hk; omega⟩, HH.out.h1, HH.out.h2, HH.out.nw, by have := HH.out.ln; omega, fun e he => HH.out.ok e (List.mem_filter.1 he).1⟩, hV⟩, (hG.mono (fun _ _ h => h.elim)).trans hbut⟩
      obtain ⟨va, vn, vk, rfl⟩ : ∃ a n k, r = .slice a n k := by obtain ⟨-, ⟨e, -⟩ | ⟨g', c', cu, e, -⟩⟩ := hT <;> exact ⟨_, _, _, e⟩
      clear hT hV hG hT2 hbk hbut HT HV HG
      go_wp2
      go_end0
      exact ⟨rfl, HFIN.out⟩
end
end Go.Proofs.Ytmepjgdopfgdhaa
