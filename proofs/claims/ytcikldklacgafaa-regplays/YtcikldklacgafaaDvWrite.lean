/- Write. -/
import Derived.Test.YtcikldklacgafaaDvRead
namespace Go.Proofs.Ytcikldklacgafaa
open Go.RowKit

def Dev.write (s : Dev) (b : Nat) (xs : List Nat) : Dev := { s with wr := s.wr ++ [(b, xs)], wt := s.wt ++ [s.wr.length] }
theorem getD_left (wr : List WrE) (e : WrE) (i : Nat) (h : i < wr.length) : (wr ++ [e]).getD i d0 = wr.getD i d0 := by
  simp [List.getD, List.getElem?_append_left h]
theorem wb_snoc {wr : List WrE} {wt : List Nat} {b c : Nat} {xs : List Nat} (h : ∀ i ∈ wt, i < wr.length) : wb (wr ++ [(b, xs)]) (wt ++ [wr.length]) c = wb wr wt c ++ (if b = c then [wr.length] else []) := by
  unfold wb
  rw [List.filter_append]
  congr 1
  · apply List.filter_congr
    intro i hi
    rw [getD_left _ _ _ (h i hi)]
  · have e : (wr ++ [(b, xs)]).getD wr.length d0 = (b, xs) := by simp [List.getD]
    rw [List.filter_cons, e]
    by_cases hbc : b = c <;> simp [hbc]
theorem Dev.ok.write {s : Dev} (h : s.ok) {b : Nat} {xs : List Nat} (hb : b < s.st.length) (hx : wf256 xs) : (s.write b xs).ok := by
  refine ⟨h.n1, h.nb, h.st, fun e he => ?_, ?_, fun i hi => ?_, h.im⟩
  · rcases List.mem_append.1 he with he | he
    · exact h.wr e he
    · rw [show e = (b, xs) by simpa using he]; exact ⟨hb, hx⟩
  · refine List.pairwise_append.2 ⟨h.wt, List.pairwise_singleton _ _, fun i hi j hj => ?_⟩
    rw [show j = s.wr.length by simpa using hj]; exact h.wl i hi
  · show i < (s.wr ++ [(b, xs)]).length
    rw [List.length_append, List.length_singleton]
    rcases List.mem_append.1 hi with hi | hi
    · have := h.wl i hi; omega
    · rw [show i = s.wr.length by simpa using hi]; omega
theorem DvM.wrote3 {w w1 w5 : World} {own own1 : Owner} {gd gs bm : Nat} {s : Dev} {vw vi v2 : Value} (h : DvM w own gd s gs vw bm vi) {b : Nat} {xs : List Nat} (hb : b < s.st.length) (hx : wf256 xs)
    (k1 : But (fun k => own k = .row b ∨ k = bm) w w1) (e1 : Ext own own1) (f1 : Fresh w own own1) (t1 : Top w1 own1) (m1 : WtM w1 own1 bm (s.write b xs).wr (s.write b xs).wt)
    (k2 : But (fun k => vw.ownBlock = some k ∨ k = gd) w1 w5) (hrow : w5.ownsRow 0 64 257 v2 (s.wr.length + 1) (s.wr.flatMap wcell ++ wcell (b, xs))) (ha : ∀ k, v2.ownBlock = some k → vw.ownBlock = some k ∨ w1.heap.size ≤ k) (hl : ∀ k, v2.ownBlock = some k → k < w5.heap.size)
    (hblk : Blk w5 gd 55 [.slice (some ⟨gs, 0, none⟩) s.st.length s.st.length, v2, .map (some bm), vi, .int .i64 (s.cnt : Int), .int .i64 (s.arm : Int), .bool s.up]) : DvTo w own gd (s.write b xs) w5 := by
  have hvw : ∀ k, vw.ownBlock = some k → own k = .wri := fun k hk => h.wri.inF k hk
  have hvw1 : ∀ k, vw.ownBlock = some k → own1 k = .wri := fun k hk => (e1 k (by rw [hvw k hk]; decide)).trans (hvw k hk)
  have q1 : ∀ {t : Tag}, t ≠ .row b → t ≠ .map → ∀ k, own k = t → ¬ (own k = .row b ∨ k = bm) := fun h1 h2 k hk hh => by
    rcases hh with hh | hh
    · exact h1 (hk.symm.trans hh)
    · exact h2 (hk.symm.trans (by rw [hh]; exact h.mat))
  have q2 : ∀ {t : Tag}, t ≠ .none → t ≠ .wri → t ≠ .dev → ∀ k, own1 k = t → ¬ (vw.ownBlock = some k ∨ k = gd) := fun _ h1 h2 k hk hh => by
    rcases hh with hh | hh
    · exact h1 (hk.symm.trans (hvw1 k hh))
    · exact h2 (hk.symm.trans (by rw [hh]; exact e1.is (by decide) gd h.tag))
  have hE : Ext own1 (tagV own1 v2 .wri) := Ext.tagV (fun k hk => (ha k hk).elim (fun e => .inr (hvw1 k e)) (fun e => .inl (t1 k e)))
  have hF : Fresh w1 own1 (tagV own1 v2 .wri) := (Fresh.refl w1 own1).tagV (fun k hk => (ha k hk).elim (fun e => .inr (hvw1 k e)) .inl)
  refine ⟨(k1.mono (fun k _ e => ?_)).then (S := fun k => own1 k ≠ .none) (k2.mono (fun k _ e => ?_)) (fun k hk e => ?_), tagV own1 v2 .wri, fun k hk => ?_, gs, v2, bm, vi, (t1.grow k2.size).tagV hl, ?_, hblk, ?_, ?_, ⟨?_, fun k hk => tagV_own hk⟩, ?_, ?_, ?_, h.ok.write hb hx⟩
  · rcases e with e | e
    · rw [e]; simp
    · rw [e, h.mat]; decide
  · rcases e with e | e
    · rw [hvw1 k e]; decide
    · rw [e, e1.is (t := .dev) (by decide) gd h.tag]; decide
  · intro h0
    by_cases hq : own1 k = own k
    · exact e (hq.trans h0)
    · have := f1 k hq; omega
  · by_cases hq : tagV own1 v2 .wri k = own1 k
    · exact f1 k (by rw [← hq]; exact hk)
    · exact Nat.le_trans k1.size (hF k hq)
  · exact hE.is (by decide) gd (e1.is (by decide) gd h.tag)
  · exact hE.is (by decide) gs (e1.is (by decide) gs h.stt)
  · exact (h.sto.but k1 (q1 (t := .sto) (by simp) (by decide) gs h.stt)).but k2 (q2 (t := .sto) (by decide) (by decide) (by decide) gs (e1.is (by decide) gs h.stt))
  · show w5.ownsRow 0 _ 257 v2 (s.wr ++ [(b, xs)]).length ((s.wr ++ [(b, xs)]).flatMap wcell)
    rw [List.length_append, List.length_singleton, List.flatMap_append, show ([(b, xs)] : List WrE).flatMap wcell = wcell (b, xs) by simp]
    exact hrow
  · exact hE.is (by decide) bm (e1.is (by decide) bm h.mat)
  · exact m1.but k2 (q2 (t := .map) (by decide) (by decide) (by decide) bm (e1.is (by decide) bm h.mat)) (fun c k hk => q2 (t := .row c) (by simp) (by simp) (by simp) k hk) (fun c k hk => hE.is (by simp) k hk)
  · have h1 : ImM w1 own1 s.st.length vi s.im := h.img.but k1 (fun j hj => hj.elim (q1 (by simp) (by decide) j) (q1 (by simp) (by decide) j)) (fun j hj => e1 j hj)
    exact h1.but k2 (fun j hj => hj.elim (q2 (by decide) (by decide) (by decide) j) (q2 (by decide) (by decide) (by decide) j)) (fun j hj => hE j hj)
/-- A row of the map has one more. -/
theorem WtM.add {w w1 : World} {own own1 : Owner} {bm : Nat} {wr : List WrE} {wt : List Nat} {b : Nat} {xs : List Nat} {v : Value} {M M' : List (Value × Value)} (hwl : ∀ i ∈ wt, i < wr.length) (hb : b < 65536)
    (h2 : ∀ p ∈ M, ∃ b : Nat, p.1 = .int .i64 (b : Int) ∧ b < 65536 ∧ wb wr wt b ≠ [] ∧ RowOf w (Is own (.row b)) 3 1 p.2 (wb wr wt b).length (ints (wb wr wt b))) (h3 : ∀ b : Nat, wb wr wt b ≠ [] → ∃ v, ((.int .i64 (b : Int) : Value), v) ∈ M)
    (hM : Mq Try.prog 3 w1 bm M') (hin : ((.int .i64 (b : Int) : Value), v) ∈ M') (hot : ∀ k u, k ≠ .int .i64 (b : Int) → ((k, u) ∈ M' ↔ (k, u) ∈ M)) (k1 : But (fun k => own k = .row b ∨ k = bm) w w1) (hbm : own bm = .map) (e1 : Ext own own1)
    (hr : RowOf w1 (Is own1 (.row b)) 3 1 v ((wb wr wt b).length + 1) (ints (wb wr wt b) ++ [.int .i64 (wr.length : Int)])) : WtM w1 own1 bm (wr ++ [(b, xs)]) (wt ++ [wr.length]) := by
  refine ⟨M', hM, fun p hp => ?_, fun c hc => ?_⟩
  · by_cases hk : p.1 = .int .i64 (b : Int)
    · have hpv : p.2 = v := hM.uniq (k := .int .i64 (b : Int)) (by rw [← hk]; exact hp) hin
      refine ⟨b, hk, hb, ?_, ?_⟩
      · rw [wb_snoc hwl]; simp
      · rw [wb_snoc hwl, if_pos rfl, List.length_append, List.length_singleton, hpv, show ints (wb wr wt b ++ [wr.length]) = ints (wb wr wt b) ++ [.int .i64 (wr.length : Int)] by simp [ints]]
        exact hr
    · obtain ⟨c, h4, h5, h6, h7⟩ := h2 p ((hot p.1 p.2 hk).1 hp)
      have hcb : ¬ b = c := fun e => hk (by rw [h4, e])
      refine ⟨c, h4, h5, by rw [wb_snoc hwl, if_neg hcb, List.append_nil]; exact h6, ?_⟩
      rw [wb_snoc hwl, if_neg hcb, List.append_nil]
      exact h7.but k1 (fun j hj hh => by
        have hj : own j = .row c := hj
        rcases hh with hh | hh
        · rw [hj] at hh; exact hcb (by simpa using hh.symm)
        · rw [hh, hbm] at hj; cases hj) (fun j hj => e1.is (by simp) j hj)
  · rw [wb_snoc hwl] at hc
    by_cases hcb : b = c
    · subst hcb; exact ⟨v, hin⟩
    · rw [if_neg hcb, List.append_nil] at hc
      obtain ⟨u, hu⟩ := h3 c hc
      refine ⟨u, (hot _ u (fun e => hcb ?_)).2 hu⟩
      simp only [Value.int.injEq, true_and] at e
      omega
theorem infI : (Try.prog.info? 3).map (fun i => (i.zero, i.size, i.bytes)) = some (some (.int .i64 0), 1, 8) := by kernel_rfl
theorem infW : (Try.prog.info? 64).map (fun i => (i.zero, i.size, i.bytes)) = some (some (.agg zeroW), 257, 264) := by kernel_rfl
theorem exec_arrayAt {w : World} {o : Oper} {ρ : Operand → Value} {T e : TypeId} {x : Operand} {n l c : Nat} {ao : Option Addr} (hu : Try.prog.underlying T = some (.array n e)) (ho : o.op = .sliceToArrayPointer T x) (hx : ρ x = .slice ao l c) (hl : n ≤ l) : (execOp ρ o).run Try.prog w = .ok (.value (.pointer ao)) w := by
  unfold execOp
  simp only [ho, hx, Instr.arrayAt, run_underlying hu, Sem.run_bind, Result.andThen_ok]
  rw [if_neg (by omega)]
  simp
section
variable {w : World} {own : Owner} {gd : Nat} {s : Dev} {v : Value} {xs : List Nat}
end
end Go.Proofs.Ytcikldklacgafaa
