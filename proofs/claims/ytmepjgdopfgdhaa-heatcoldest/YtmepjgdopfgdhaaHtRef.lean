/- The reference's heats: how they lie in memory; Of. -/
import Derived.Test.YtmepjgdopfgdhaaHtCold
namespace Go.Proofs.Ytmepjgdopfgdhaa
open Go.RowKit

abbrev Sp := Int × Nat × Nat
def spc (e : Sp) : List Value := [.int .i64 e.1, .float .f64 e.2.1, .int .i64 (e.2.2 : Int)]
theorem spc_len (e : Sp) : (spc e).length = 3 := rfl
/-- Of a list the first one of a key. -/
def look (L : List Sp) : Tb := fun k => (L.find? (fun e => e.1 == k)).map (·.2)
structure RhM (w : World) (gx : Nat) (v : Value) (half now : Nat) (L : List Sp) : Prop where
  blk : Blk w gx 31 [.int .i64 (half : Int), .int .i64 (now : Int), v]
  row : RowOf w (fun k => k ≠ gx) 56 3 v L.length (L.flatMap spc)
  h1 : 1 ≤ half
  h2 : half ≤ 1000
  nw : now ≤ 1000000
  ln : L.length ≤ now
  ok : ∀ e ∈ L, i64 e.1 ∧ e.2.1 < 18446744073709551616 ∧ e.2.2 ≤ now
section
variable {w w' : World} {gx half now : Nat} {v : Value} {L : List Sp} {R : Nat → Prop}
theorem RhM.but (h : RhM w gx v half now L) (k : But R w w') (h1 : ¬ R gx) (h2 : ∀ j, v.ownBlock = some j → ¬ R j) : RhM w' gx v half now L :=
  ⟨h.blk.but k h1, ⟨ownsRow_but h.row.own k h2, h.row.inF⟩, h.h1, h.h2, h.nw, h.ln, h.ok⟩
theorem RhM.grow (h : RhM w gx v half now L) (k : Grow w w') : RhM w' gx v half now L := h.but k (fun h => h) (fun _ _ h => h)
theorem RhM.at (h : RhM w gx v half now L) {i : Nat} (hi : i < L.length) : ∃ g cap, v = .slice (some ⟨g, 0, none⟩) L.length cap ∧ ∀ c u, (spc (L.getD i (0, 0, 0)))[c]? = some u → w.cell? ⟨g, i * 3 + c, none⟩ = some u := by
  obtain ⟨ao, cap, e, h2⟩ := h.row.shape
  obtain ⟨g, rfl, h3, -, h5⟩ := h2 (by omega)
  exact ⟨g, cap, e, fun c u hu => h5 _ _ (flat_at L (fun e _ => spc_len e) i _ c u (by rw [List.getD_eq_getElem?_getD, List.getElem?_eq_getElem hi]; rfl) hu)⟩
theorem RhM.len (h : RhM w gx v half now L) : ∃ ao cap, v = .slice ao L.length cap := by
  obtain ⟨ao, cap, e, -⟩ := h.row.shape
  exact ⟨ao, cap, e⟩
theorem look_at {K : Int} {i : Nat} (hi : i < L.length) (hk : (L.getD i (0, 0, 0)).1 = K) (hn : ∀ j, j < i → (L.getD j (0, 0, 0)).1 ≠ K) : look L K = some (L.getD i (0, 0, 0)).2 := by
  unfold look
  have h : List.find? (fun e : Sp => e.1 == K) L = some (L.getD i (0, 0, 0)) := by
    rw [List.find?_eq_some_iff_getElem]
    refine ⟨by simpa using hk, i, hi, ?_, fun j hj => ?_⟩
    · rw [List.getD_eq_getElem?_getD, List.getElem?_eq_getElem hi]; rfl
    · have := hn j hj
      rw [List.getD_eq_getElem?_getD, List.getElem?_eq_getElem (by omega)] at this
      simpa using this
  rw [h]
  rfl
theorem look_none' {K : Int} (hn : ∀ j, j < L.length → (L.getD j (0, 0, 0)).1 ≠ K) : look L K = none := by
  unfold look
  rw [List.find?_eq_none.2]
  · rfl
  · intro e he
    obtain ⟨j, hj, rfl⟩ := List.getElem_of_mem he
    have := hn j hj
    rw [List.getD_eq_getElem?_getD, List.getElem?_eq_getElem hj] at this
    simpa using this
theorem look_drop (L : List Sp) (K k : Int) : look (L.filter (fun e => !(e.1 == K))) k = tdrop (look L) K k := by
  unfold look tdrop
  rw [List.find?_filter]
  by_cases hk : k = K
  · rw [if_pos hk, List.find?_eq_none.2]
    · rfl
    · intro e he; subst hk; simp
  · rw [if_neg hk]
    congr 1
    congr 1
    funext e
    by_cases h : e.1 = k
    · simp [h, hk]
    · simp [h]
theorem look_put (L : List Sp) (K k : Int) (x t : Nat) : look (L.filter (fun e => !(e.1 == K)) ++ [(K, x, t)]) k = tput (look L) K x t k := by
  have h := look_drop L K k
  unfold look at h ⊢
  rw [List.find?_append]
  unfold tput
  by_cases hk : k = K
  · rw [if_pos hk, List.find?_eq_none.2]
    · subst hk; simp
    · intro e he
      have := (List.mem_filter.1 he).2
      subst hk
      simpa using this
  · rw [if_neg hk]
    unfold tdrop at h
    rw [if_neg hk] at h
    rw [← h]
    have e2 : (List.find? (fun e : Sp => e.1 == k) [(K, x, t)]) = none := by
      simp; exact fun e => hk e.symm
    rw [e2, Option.or_none]
set_option maxRecDepth 100000 in
set_option maxHeartbeats 1000000 in
theorem rof_any (h : RhM w gx v half now L) (K : Int) : Calls Try.prog 17 #[.pointer (some ⟨gx, 0, none⟩), .int .i64 K] w fun e w' => e = .returned (.float .f64 (hof half now (look L) K)) ∧ Grow w w' := by
  have HH := Hid.mk' h
  obtain ⟨ao, cap, rfl⟩ := h.len
  obtain ⟨n, hn⟩ : ∃ n, n = L.length := ⟨_, rfl⟩
  have c2 : w.cell? ⟨gx, 2, none⟩ = some (.slice ao n cap) := by rw [hn]; exact h.blk.cell 2
  have HN := Hid.mk' hn
  have hnb : (n : Int) ≤ 1000000 := by have := h.ln; have := h.nw; omega
  clear h hn
  go_enter Try.func17, Try.ntmps17
  go_wp2
  go_loopw [5] (fun iv wr => ∃ i : Nat, i ≤ n ∧ iv = .int .i64 i ∧ (∀ j, j < i → (L.getD j (0, 0, 0)).1 ≠ K) ∧ wr = w) (fun iv _ => n - (intOf iv).toNat)
  case atStart => exact ⟨0, Nat.zero_le _, rfl, fun j hj => absurd hj (by omega), rfl⟩
  case round =>
    obtain ⟨i, hin, rfl, hne, rfl⟩ := hrel
    have HNE := Hid.mk' hne
    clear hne
    by_cases hlt : i < n
    · have hlti : (i : Int) < (n : Int) := by omega
      have hiL : i < L.length := by rw [← HN.out]; exact hlt
      obtain ⟨g, cp, e1, hcell⟩ := HH.out.at hiL
      simp only [Value.slice.injEq] at e1
      obtain ⟨rfl, -, rfl⟩ := e1
      have HOK := Hid.mk' (HH.out.ok _ (show L.getD i (0, 0, 0) ∈ L by rw [List.getD_eq_getElem?_getD, List.getElem?_eq_getElem hiL]; exact List.getElem_mem hiL))
      have HLK := Hid.mk' (fun hk => look_at (K := K) hiL hk HNE.out)
      have HST : Hid (¬ (L.getD i (0, 0, 0)).1 = K → ∀ j, j < i + 1 → (L.getD j (0, 0, 0)).1 ≠ K) := fun hk j hj => by
        by_cases e : j < i
        · exact HNE.out j e
        · rw [show j = i by omega]; exact hk
      obtain ⟨e, he⟩ : ∃ e, e = L.getD i (0, 0, 0) := ⟨_, rfl⟩
      rw [← he] at hcell HOK HLK HST
      obtain ⟨q, b, t⟩ := e
      have c3 : wr.cell? ⟨g, i * 3, none⟩ = some (.int .i64 q) := hcell 0 _ rfl
      have HC4 : Hid (wr.cell? ⟨g, i * 3 + 1, none⟩ = some (.float .f64 b)) := hcell 1 _ rfl
      have HC5 : Hid (wr.cell? ⟨g, i * 3 + 2, none⟩ = some (.int .i64 (t : Int))) := hcell 2 _ rfl
      clear hiL he hcell
      by_cases hq : q = K
      · have hqi : (q == K) = true := by simpa using hq
        obtain ⟨-, hb, ht⟩ := HOK.out
        have hlk := HLK.out hq
        have hh1 := HH.out.h1
        have hh2 := HH.out.h2
        have hnw := HH.out.nw
        obtain ⟨d, hd⟩ : ∃ d, d = now - t := ⟨_, rfl⟩
        obtain ⟨p, hp⟩ : ∃ p, p = d / half := ⟨_, rfl⟩
        have hpd : p ≤ d := by rw [hp]; exact Nat.div_le_self _ _
        have HE : Hid (rt (fd b p) = hof half now (look L) K) := by show _ = _; unfold hof; rw [hlk]; rw [hp, hd]
        have HF := Hid.mk' (fun w => refFade_any b (p : Int) w hb (by omega) (by omega))
        rw [show (p : Int).toNat = p by omega] at HF
        have HR := Hid.mk' (fun w => rright_any (fd b p) w (fd_lt b p hb))
        have HQ : Hid (Int.tdiv (d : Int) (half : Int) = (p : Int) ∧ ¬ half = 0 ∧ (now : Int) - (t : Int) = (d : Int) ∧ IntKind.i64.wrap (d : Int) = (d : Int) ∧ IntKind.i64.wrap (p : Int) = (p : Int)) := by
          simp only at ht
          refine ⟨?_, by omega, by omega, wrapN _ (by omega), wrapN _ (by omega)⟩
          rw [hp]; rfl
        obtain ⟨f, hf⟩ : ∃ f, f = fd b p := ⟨_, rfl⟩
        rw [← hf] at HF HR HE
        clear hb ht hlk hh1 hh2 hnw hd hp hpd hf hq HST HLK HOK
        go_upto_region 5 with fail
        clear c3 c2 hqi hlti
        refine region_chain [] [0, 1, 2, 3, 4, 5, 6, 7, 8, 9, 10, 11, 12, 13, 14, 15, 16, 17, 18, 19, 20, 21, 22, 23, 24, 25, 26, 27, 28] (Grow wr) (Grow wr) (by kernel_rfl) (by kernel_rfl) (fun _ _ h k => h.trans k) (fun _ h => h) ((But.refl _ wr).drew) ?_
        intro ι hne X hX
        have d0 : ∀ x, (X x).cell? ⟨gx, 0, none⟩ = some (.int .i64 (half : Int)) := fun x => ((HH.out.grow (hX x)).blk).cell 0
        have d1 : ∀ x, (X x).cell? ⟨gx, 1, none⟩ = some (.int .i64 (now : Int)) := fun x => ((HH.out.grow (hX x)).blk).cell 1
        have d2 : ∀ x, (X x).cell? ⟨gx, 2, none⟩ = some (.slice (some ⟨g, 0, none⟩) n cap) := fun x => by rw [HN.out]; exact ((HH.out.grow (hX x)).blk).cell 2
        have d4 : ∀ x, (X x).cell? ⟨g, i * 3 + 1, none⟩ = some (.float .f64 b) := fun x => grow_cell (hX x) HC4.out
        have d5 : ∀ x, (X x).cell? ⟨g, i * 3 + 2, none⟩ = some (.int .i64 (t : Int)) := fun x => grow_cell (hX x) HC5.out
        obtain ⟨q1, q2, q3, q4, q5⟩ := HQ.out
        iterate 26 (refine still_step rfl (fun K hK => ?_); go_simp; refine hK _ ?_; clear hK K)
        refine still_call rfl (.float .f64 f) 25 #[.float .f64 b, .int .i64 (p : Int)] rfl (fun x => by kernel_rfl) (fun x => (HF.out (X x)).mono (fun e w' h => ⟨h.1, by rw [h.2]; exact But.refl _ _⟩)) ?_
        intro K hK; go_simp; refine hK _ ?_; clear hK K
        refine still_call rfl (.float .f64 (rt f)) 24 #[.float .f64 f] rfl (fun x => by kernel_rfl) (fun x => (HR.out (X x)).mono (fun e w' h => ⟨h.1, by rw [h.2]; exact But.refl _ _⟩)) ?_
        intro K hK; go_simp; refine hK _ ?_; clear hK K
        iterate 1 (refine still_step rfl (fun K hK => ?_); go_simp; refine hK _ ?_; clear hK K)
        refine still_nil ?_
        clear hX hne d0 d1 d2 d4 d5 q1 q2 q3 q4 q5
        intro w2 hw2
        have HW2 := Hid.mk' hw2
        clear hw2
        go_wp2
        go_ret
        exact ⟨by rw [HE.out]; rfl, HW2.out⟩
      · have hqi : (q == K) = false := by simpa using hq
        have HS2 := Hid.mk' (HST.out hq)
        clear hq HST HLK HOK HC4 HC5
        go_wp2
        exact ⟨⟨i + 1, by omega, by go_num, HS2.out, by first | rfl | trivial⟩, by simp [intOf]; omega⟩
    · have hlti : ¬ ((i : Int) < (n : Int)) := by omega
      have HE : Hid (hof half now (look L) K = 0) := by
        show _ = _
        unfold hof
        rw [look_none' (K := K) (fun j hj => HNE.out j (by have := HN.out; omega))]
      go_wp2
      go_ret
      exact ⟨by rw [HE.out]; rfl, But.refl _ _⟩
end
end Go.Proofs.Ytmepjgdopfgdhaa
