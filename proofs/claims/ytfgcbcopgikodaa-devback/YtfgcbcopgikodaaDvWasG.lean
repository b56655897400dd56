/- A law keeps what each block reads, and holds it against what it reads later. -/
import Derived.Test.YtfgcbcopgikodaaAllD
namespace Go.Proofs.Ytfgcbcopgikodaa
open Go.RowKit

structure WasI (w0 : World) (f : Nat → List Nat) (i : Nat) (v : Value) (M : List SbE) (w : World) : Prop where
  mp : M.map (·.2) = (List.range i).map f
  row : w.ownsRow 0 32 1 v M.length (M.map (·.1))
  new : ∀ k, v.ownBlock = some k → w0.heap.size ≤ k
  el : ∀ e ∈ M, Bs w e.1 e.2
  en : ∀ e ∈ M, ∀ k, e.1.ownBlock = some k → w0.heap.size ≤ k ∧ k < w.heap.size
  ne : ∀ e ∈ M, ∀ k, v.ownBlock = some k → e.1.ownBlock ≠ some k
  grow : Grow w0 w
section
variable {w0 wr w1 w4 : World} {f : Nat → List Nat} {i : Nat} {v v4 : Value} {M : List SbE}
theorem WasI.zero (w : World) (f : Nat → List Nat) : WasI w f 0 (.slice none 0 0) [] w :=
  ⟨rfl, World.ownsRow_nil _ _ _ _, (fun k hk => by cases hk), (fun f hf => absurd hf List.not_mem_nil), (fun f hf => absurd hf List.not_mem_nil), (fun f hf => absurd hf List.not_mem_nil), But.refl _ _⟩
theorem WasI.len (h : WasI w0 f i v M wr) : M.length = i := by
  have := congrArg List.length h.mp
  rw [List.length_map, List.length_map, List.length_range] at this
  exact this
/-- One more is kept. -/
theorem WasI.next (h : WasI w0 f i v M wr) {ua : Option Addr} {un uc : Nat} (hu : Nw w1 wr.heap.size (.slice ua un uc) (f i)) (h0 : 0 < (f i).length) (hg : Grow wr w1)
    (hap : Appd (w1.alloc (.cells #[.slice ua un uc] 32)) w4 32 1 v v4 (M.length + 1) (M.map (·.1) ++ [.slice ua un uc])) : WasI w0 f (i + 1) v4 (M ++ [(.slice ua un uc, f i)]) w4 := by
  have HAL : Grow w1 (w1.alloc (.cells #[.slice ua un uc] 32)) := (But.refl _ w1).alloc _
  have hG1 : Grow w0 w1 := h.grow.trans hg
  have hG2 : Grow w0 (w1.alloc (.cells #[.slice ua un uc] 32)) := hG1.trans HAL
  have hs1 := HAL.size
  have hs2 := hap.but.size
  have hs3 := hg.size
  have hs0 := h.grow.size
  have hU1 : ∀ k, (.slice ua un uc : Value).ownBlock = some k → wr.heap.size ≤ k ∧ k < w1.heap.size := fun k hk => by
    refine ⟨?_, hu.bs.lt' h0 k hk⟩
    rcases hu.ex with e | ⟨g, cap, T, R, e, hge, -⟩
    · rw [e] at h0; exact absurd h0 (by simp)
    · rw [e] at hk
      have : some g = some k := hk
      rw [← Option.some.inj this]; exact hge
  have hvl : ∀ k, v.ownBlock = some k → k < wr.heap.size := fun k hk => (h.row.lt k hk).2
  refine ⟨?_, ?_, fun k hk => ?_, fun e he => ?_, fun e he k hk => ?_, fun d hd k hk => ?_, ?_⟩
  · rw [List.map_append, h.mp, List.range_succ, List.map_append]; rfl
  · rw [List.length_append, List.length_singleton, List.map_append]
    exact hap.own
  · rcases hap.at' with e | e
    · exact h.new k (by rw [← e]; exact hk)
    · rw [e] at hk
      cases hk
      exact hG2.size
  · rcases List.mem_append.1 he with he | he
    · exact (((h.el e he).but hg (fun _ _ _ h => h)).but HAL (fun _ _ _ h => h)).but hap.but (fun j hj _ e' => h.ne e he j e' hj)
    · rw [show e = (.slice ua un uc, f i) by simpa using he]
      exact (hu.bs.but HAL (fun _ _ _ h => h)).but hap.but (fun j hj _ e => by have := (hU1 j hj).1; have := hvl j e; omega)
  · rcases List.mem_append.1 he with he | he
    · have := h.en e he k hk
      omega
    · rw [show e = (.slice ua un uc, f i) by simpa using he] at hk
      have := hU1 k hk
      omega
  · intro hfk
    rcases List.mem_append.1 hd with hd | hd
    · rcases hap.at' with e | e
      · exact h.ne d hd k (by rw [← e]; exact hk) hfk
      · rw [e] at hk
        cases hk
        have := (h.en d hd _ hfk).2
        omega
    · rw [show d = (.slice ua un uc, f i) by simpa using hd] at hfk
      have h9 := hU1 k hfk
      rcases hap.at' with e | e
      · have := hvl k (by rw [← e]; exact hk); omega
      · rw [e] at hk
        cases hk
        omega
  · exact hG2.then hap.but (fun j hj e => by have := h.new j e; omega)
/-- What was kept stands in what isn't either's. -/
theorem WasI.at {F : Nat → Prop} {w' : World} (h : WasI w0 f i v M wr) (hF : ∀ b, w0.heap.size ≤ b → b < wr.heap.size → F b) (k : But (fun b => ¬ F b) wr w') {j : Nat} (hj : j < i) : ∃ g c u, v = .slice (some ⟨g, 0, none⟩) i c ∧ w'.cell? ⟨g, j, none⟩ = some u ∧ Bs w' u (f j) := by
  have hl := h.len
  have hjM : j < M.length := by omega
  have hrow : w'.ownsRow 0 32 1 v M.length (M.map (·.1)) := ownsRow_but h.row k (fun b hb n => n (hF b (h.new b hb) (h.row.lt b hb).2))
  obtain ⟨ao, c, e, h4⟩ := (⟨hrow, fun _ _ => trivial⟩ : RowOf w' (fun _ => True) 32 1 v M.length (M.map (·.1))).shape
  obtain ⟨g, rfl, -, -, h6⟩ := h4 (by omega)
  have hm := List.getElem_mem hjM
  refine ⟨g, c, M[j].1, by rw [e, hl], h6 j _ (by rw [List.getElem?_map, List.getElem?_eq_getElem hjM]; rfl), ?_⟩
  have h7 := (h.el _ hm).but k (fun b hb _ n => n (hF b (h.en _ hm b hb).1 (h.en _ hm b hb).2))
  have h8 : M[j].2 = f j := by
    have h9 : (M.map (·.2))[j]? = some M[j].2 := by rw [List.getElem?_map, List.getElem?_eq_getElem hjM]; rfl
    rw [h.mp, List.getElem?_map, List.getElem?_range hj] at h9
    exact (Option.some.inj h9).symm
  rw [h8] at h7
  exact h7
end
theorem ond_up (s : Dev) (fs : List Int) : (s.ond fs).up = true := by
  unfold Dev.ond
  split
  · assumption
  · rfl
theorem safe_flush {s : Dev} (hu : s.up = true) (ha : s.arm = 0) : s.fcode = 0 ∧ s.flu.up = true ∧ s.flu.wt = [] := by
  have e : s.flu = s.acc.flushed := by unfold Dev.flu; rw [if_pos hu, if_neg (by omega)]
  refine ⟨?_, ?_, ?_⟩
  · unfold Dev.fcode; rw [if_pos hu, if_neg (by omega)]
  · rw [e]
    show (!(s.arm == 1)) = true
    rw [ha]; rfl
  · rw [e]; rfl
theorem on_none {s : Dev} (hw : s.wt = []) (fs : List Int) : ((s.ond fs).st = s.st) ∧ (s.ond fs).wt = [] := by
  unfold Dev.ond
  split
  · exact ⟨rfl, hw⟩
  · refine ⟨?_, rfl⟩
    show tear s fs s.wt.length = s.st
    rw [hw]; rfl
theorem now_flat {s : Dev} (hw : s.wt = []) (i : Nat) : s.now i = s.st.getD i [] := now_none (by rw [hw]; rfl)
theorem up_codes {s : Dev} (hu : s.up = true) {k : Nat} (hk : k < s.st.length) : s.rcode (k : Int) = 0 ∧ s.rbytes (k : Int) = s.now k := by
  have hB : s.hasB (k : Int) = true := decide_eq_true ⟨by omega, by omega⟩
  exact ⟨by unfold Dev.rcode; rw [hu, hB]; rfl, by unfold Dev.rbytes; rw [hu, hB]; rfl⟩
theorem nil_intf (w : World) (F : Nat → Prop) : IntF w F (.slice none 0 0) [] := ⟨⟨fun _ h => absurd h List.not_mem_nil, Nat.zero_le _, .inl ⟨rfl, none, 0, rfl⟩⟩, fun h0 => absurd h0 (by simp)⟩
end Go.Proofs.Ytfgcbcopgikodaa
