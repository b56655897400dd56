/- ghash: the multiples of an element, and products by them. -/
import Derived.Test.YtpdkdeebdhdhgaaGhashElem
namespace Go.Proofs.Ytpdkdeebdhdhgaa
open Go.RowKit

theorem ev_len (a : G) : (ev a).length = 2 := rfl
theorem ev_one (a : G) : ∀ v ∈ ev a, v.oneCell' = true := by
  intro v hv
  simp only [ev, el, List.mem_cons, List.not_mem_nil, or_false] at hv
  rcases hv with rfl | rfl <;> rfl
/-- The cells of the first k multiples. -/
def tb (a : G) : Nat → List Value
  | 0 => []
  | k + 1 => tb a k ++ ev (mxs k a)
theorem tb_len (a : G) (k : Nat) : (tb a k).length = 2 * k := by
  induction k with
  | zero => rfl
  | succ k ih => show (tb a k ++ ev (mxs k a)).length = _; rw [List.length_append, ih, ev_len]; omega
theorem tb_at (a : G) (i j : Nat) (hj : j < 2) : ∀ k, i < k → (tb a k)[2 * i + j]? = (ev (mxs i a))[j]?
  | k + 1, h => by
    show (tb a k ++ ev (mxs k a))[2 * i + j]? = _
    by_cases e : i = k
    · subst e
      rw [List.getElem?_append_right (by rw [tb_len]; omega), tb_len, show 2 * i + j - 2 * i = j by omega]
    · rw [List.getElem?_append_left (by rw [tb_len]; omega)]
      exact tb_at a i j hj k (by omega)
theorem tb_cells {w : World} {g : Nat} {T : TypeId} {h : G} (hb : Blk w g T (tb h 128)) (i off : Nat) (hi : i < 128) (ho : off = i * 2) :
    ∀ j v, (ev (mxs i h))[j]? = some v → w.cell? ((⟨g, off, none⟩ : Addr).add j) = some v := by
  intro j v hv
  have hj : j < 2 := (List.getElem?_eq_some_iff.1 hv).1
  have e : (⟨g, off, none⟩ : Addr).add j = ⟨g, 2 * i + j, none⟩ := by rw [ho, Nat.mul_comm]; simp [Addr.add]
  rw [e, hb.cell, tb_at h i j hj 128 hi]; exact hv
theorem run_load_ev {w : World} {o : Oper} {a : Act} {x : Operand} {ad : Addr} {s : G} (hc : ∀ j v, (ev s)[j]? = some v → w.cell? (ad.add j) = some v) (ho : o.op = .load 39 x) (hx : a.eval x = .pointer (some ad)) :
    (execOp a.eval o).run Try.prog w = .ok (.value (.agg (ev s).toArray)) w := by
  have h := run_loadVar_cells w ad 39 (ev s) _ hc Try.underlying39 rfl (by rw [i39, ev_len])
  unfold execOp
  simp only [ho, hx, Instr.loadAt, Instr.sureAddr, Sem.run_bind, Sem.run_pure, Result.andThen_ok, h]
theorem wpList_load_ev {w : World} {ops : Array Oper} {rest : List Oper} {o : Oper} {a : Act} {Q : Exit → Act → World → Prop} (hgd : o.guard = none) (x : Operand) (ho : o.op = .load 39 x)
    (ad : Addr) (s : G) (hx : a.eval x = .pointer (some ad)) (hc : ∀ j v, (ev s)[j]? = some v → w.cell? (ad.add j) = some v) (h : wpList Try.prog ops Q rest (a.put o.dst (.agg (ev s).toArray)) w) : wpList Try.prog ops Q (o :: rest) a w :=
  wpList_load_cells hgd 39 x ho ad hx (ev s) _ hc Try.underlying39 rfl (by rw [i39, ev_len]) h
/-- An element over an element that fills its block. -/
theorem wpList_store_ev {w : World} {ops : Array Oper} {rest : List Oper} {o : Oper} {a : Act} {Q : Exit → Act → World → Prop} (hgd : o.guard = none) (x y : Operand) (ho : o.op = .store 39 x y)
    (g : Nat) (T : TypeId) (s old : G) (hx : a.eval x = .pointer (some ⟨g, 0, none⟩)) (hy : a.eval y = .agg (ev s).toArray) (hb : Blk w g T (ev old))
    (h : ∀ w', Blk w' g T (ev s) → But (· = g) w w' → wpList Try.prog ops Q rest (a.put o.dst undef) w') : wpList Try.prog ops Q (o :: rest) a w :=
  wpList_store_at hgd 39 x y ho g 0 (ev s) hx hy T [] (ev old) [] (by rw [List.nil_append, List.append_nil]; exact hb) rfl (by rw [ev_len, ev_len]) (by rw [i39, ev_len]) (ev_one s) (by
    intro w' hb' hbt
    rw [List.nil_append, List.append_nil] at hb'
    exact h w' hb' hbt)
/-- What memory is amid fill. -/
structure FillI (w : World) (g b : Nat) (T : TypeId) (a : G) (L : List Value) (k : Nat) (wr : World) : Prop where
  row : Blk wr g T (tb a k ++ L.drop (2 * k))
  cur : Blk wr b 39 (ev (mxs k a))
  but : But (· = g) w wr
set_option maxRecDepth 100000 in
set_option maxHeartbeats 1000000 in
theorem fill_any {w : World} {g : Nat} {T : TypeId} {L : List Value} {a : G} (hb : Blk w g T L) (hl : L.length = 256) :
    Calls Try.prog 20 #[.pointer (some ⟨g, 0, none⟩), .agg (ev a).toArray] w fun e w' => e = .returned (.tuple #[]) ∧ Blk w' g T (tb a 128) ∧ But (· = g) w w' := by
  obtain ⟨b, hbb⟩ : ∃ b, b = w.heap.size := ⟨_, rfl⟩
  have hgb : g < b := by rw [hbb]; exact hb.lt
  obtain ⟨C, hC⟩ : ∃ C, C = (ev a).toArray := ⟨_, rfl⟩
  rw [← hC]
  have HC := Hid.mk' hC
  have HB := Hid.mk' hbb
  have HLL := Hid.mk' hl
  have HI0 : Hid (FillI w g b T a L 0 (w.alloc (.cells C 39))) := by
    refine ⟨?_, ?_, (But.refl _ w).alloc _⟩
    · exact hb.but ((But.refl (fun _ => False) w).alloc _) (fun h => h)
    · rw [hC]; exact Blk.new hbb.symm
  clear hC hb hl
  go_enter Try.func20, Try.ntmps20
  go_wp2
  rw [← hbb]
  generalize w.alloc (.cells C 39) = W0 at *
  clear hbb
  go_loopw [5] (fun i wr => ∃ k : Nat, k ≤ 128 ∧ i = .int .i64 k ∧ FillI w g b T a L k wr) (fun i _ => 128 - (intOf i).toNat)
  case atStart => exact ⟨0, by omega, rfl, HI0.out⟩
  case round =>
    obtain ⟨k, hk, rfl, hI⟩ := hrel
    have HI := Hid.mk' hI
    clear hI HI0
    by_cases hlt : k < 128
    · have hki : (k : Int) < 128 := by omega
      go_upto_region 4 with fail
      refine region_class (l := [_, _, _, _, _]) (o := _) (fun w' => But (fun _ => False) wr w') (by kernel_rfl) (by kernel_rfl) (by kernel_rfl) rfl (by kernel_rfl) (by kernel_rfl) ((But.refl _ wr).drew) ?_
      refine class_val _ rfl (fun w' _ => rfl) ?_
      intro K hK; go_simp; refine hK _ ?_; clear hK K
      refine class_val _ rfl (fun w' _ => rfl) ?_
      intro K hK; go_simp; refine hK _ ?_; clear hK K
      refine class_val (.agg (ev (mxs k a)).toArray) rfl (fun w' hw' => run_load_ev (blk_add (HI.out.cur.but hw' (fun h => h))) rfl rfl) ?_
      intro K hK; go_simp; refine hK _ ?_; clear hK K
      refine class_val _ rfl (fun w' _ => rfl) ?_
      intro K hK; go_simp; refine hK _ ?_; clear hK K
      refine class_val (.pointer (some ⟨g, k * 2, none⟩)) rfl (fun w' _ => by go_simp) ?_
      intro K hK; go_simp; refine hK _ ?_; clear hK K
      refine wpQuiet_nil ?_
      intro w5 hw5
      have HR5 : Hid (Blk w5 g T (tb a k ++ (L.drop (2 * k)).take 2 ++ L.drop (2 * k + 2))) := by
        have h := HI.out.row.but hw5 (fun h => h)
        rw [List.append_assoc, ← List.drop_drop, List.take_append_drop]
        exact h
      have HL2 : Hid (((L.drop (2 * k)).take 2).length = 2) := by
        show _ = _
        rw [List.length_take, List.length_drop, HLL.out]; omega
      have HTL : Hid ((tb a k).length = k * 2) := by show _ = _; rw [tb_len]; omega
      have HC5 := Hid.mk' (HI.out.cur.but hw5 (fun h => h))
      have HB5 := Hid.mk' (HI.out.but.then hw5 (fun _ _ h => h.elim))
      obtain ⟨s, hs⟩ : ∃ s, s = mxs k a := ⟨_, rfl⟩
      rw [← hs] at HC5 ⊢
      have HS := Hid.mk' hs
      clear hs
      go_wp2_with (first
        | (refine wpList_store_at rfl 39 _ _ rfl g (k * 2) (ev s) rfl (by exact rfl) T _ _ _ HR5.out HTL.out (by rw [HL2.out, ev_len]) (by rw [i39, ev_len]) (ev_one s) ?_; intro w6 hr6 hb6; have HC6 := Hid.mk' (HC5.out.but hb6 (show ¬ (b = g) by omega)); have HR6 := Hid.mk' hr6; have HB6 := Hid.mk' hb6; clear hr6 hb6)
        | (refine wpList_load_ev rfl _ rfl ⟨b, 0, none⟩ s rfl (blk_add HC6.out) ?_)
        | (go_at_call 32; refine (timesX_any s).mono ?_; rintro e w7 ⟨rfl, hb7⟩; have HC7 := Hid.mk' (HC6.out.but hb7 (fun h => h)); have HB7 := Hid.mk' hb7; clear hb7)
        | (refine wpList_store_ev rfl _ _ rfl b 39 (mx s) s rfl (by exact rfl) HC7.out ?_; intro w8 hc8 hb8))
      refine ⟨⟨k + 1, by omega, by go_num, ?_⟩, by simp [intOf]; omega⟩
      have hsz : w.heap.size = b := HB.out.symm
      refine ⟨?_, ?_, ((HB5.out.then HB6.out (fun _ _ h => h)).then HB7.out (fun _ _ h => h.elim)).then hb8 (fun j hj e => ?_)⟩
      · have h := (HR6.out.but HB7.out (fun h => h)).but hb8 (show ¬ (g = b) by omega)
        rw [HS.out] at h
        exact h
      · rw [HS.out] at hc8
        exact hc8
      · exact absurd (show j = b from e) (by omega)
    · have hkn : k = 128 := by omega
      subst hkn
      go_wp2
      go_end0
      refine ⟨rfl, ?_, HI.out.but⟩
      have h := HI.out.row
      rwa [List.drop_of_length_le (by rw [HLL.out]; decide), List.append_nil] at h
end Go.Proofs.Ytpdkdeebdhdhgaa
