/- The program's spill slots in memory: New, Of, Free, Clear; slots that are none. -/
import Derived.Test.YtehajgfjdmhdpaaSpMath
import Derived.Test.YtehajgfjdmhdpaaMapOf
import Derived.Test.YtehajgfjdmhdpaaResults
import Derived.Test.YtehajgfjdmhdpaaChain
import Derived.Test.YtehajgfjdmhdpaaLasts
import Derived.Deep.Cut
namespace Go.Proofs.Ytehajgfjdmhdpaa
open Go.RowKit Go.Maps

/-- A slot's cells: its number, and under what it holds a page. -/
def scl (i : Nat) (x : En) : List Value := .int .i64 (i : Int) :: ecells x
abbrev slV (e : Int × Nat × En) : Value := .agg (scl e.2.1 e.2.2).toArray
theorem scl_one (i : Nat) (x : En) : ∀ u ∈ scl i x, u.oneCell' = true := by
  intro u hu
  unfold scl at hu
  rcases List.mem_cons.1 hu with rfl | hu
  · rfl
  · exact ecells_one x u hu
theorem iSlot : (Try.prog.info? 58).map (·.size) = some 4 := by kernel_rfl
theorem zSlot (w : World) : (zeroValue 58).run Try.prog w = .ok (.agg #[.int .i64 0, .int .u32 0, .int .u32 0, .int .u64 0]) w := by kernel_rfl
/-- Program's slots at gs, their map at gm. -/
structure SpM (w : World) (gs gm n : Nat) (S : Sl) : Prop where
  blk : Blk w gs 55 [.int .i64 (n : Int), .map (some gm)]
  map : MapOf 3 w gm (fun e : Int × Nat × En => iv e.1) slV (entS S)
  len : S.length = n
  lo : 1 ≤ n
  hi : n ≤ 256
  ok : SlOk S
  ne : gs ≠ gm
structure SpTo (w : World) (gs gm n : Nat) (S : Sl) (w' : World) : Prop where
  m : SpM w' gs gm n S
  but : But (· = gm) w w'
section
variable {w w' : World} {gs gm n : Nat} {S : Sl} {R : Nat → Prop}
theorem SpM.but (h : SpM w gs gm n S) (k : But R w w') (h1 : ¬ R gs) (h2 : ¬ R gm) : SpM w' gs gm n S := ⟨h.blk.but k h1, h.map.but k h2, h.len, h.lo, h.hi, h.ok, h.ne⟩
theorem SpM.grow (h : SpM w gs gm n S) (k : Grow w w') : SpM w' gs gm n S := h.but k (fun h => h) (fun h => h)
theorem SpM.lt (h : SpM w gs gm n S) : gs < w.heap.size ∧ gm < w.heap.size := ⟨h.blk.lt, h.map.lt⟩
theorem SpTo.grow {w2 : World} (h : SpTo w gs gm n S w') (k : Grow w' w2) : SpTo w gs gm n S w2 := ⟨h.m.grow k, h.but.trans (k.mono (fun _ _ h => h.elim))⟩
/-- The look at a page's slot. -/
theorem SpM.look (h : SpM w gs gm n S) {p : Int} (hp : i64 p) : (∀ i x, whoS S p = some i → S[i]? = some (some (p, x)) → (Instr.lookup 53 (.map (some gm)) (.int .i64 p) true).run Try.prog w = .ok (.tuple #[.agg (scl i x).toArray, .bool true]) w) ∧ (whoS S p = none → (Instr.lookup 53 (.map (some gm)) (.int .i64 p) true).run Try.prog w = .ok (.tuple #[.agg (scl 0 ⟨0, 0, 0⟩).toArray, .bool false]) w) := by
  have hl := h.map.look (t := 53) (et := 58) keyIa Try.underlying53 zSlot (keyOfIa p hp) true
  refine ⟨fun i x hw hx => ?_, fun hn => hl.2 (fun e he e2 => ?_)⟩
  · exact hl.1 (p, i, x) (mem_entS.2 hx) rfl
  · obtain ⟨q, i, x⟩ := e
    have e3 : q = p := iv_inj e2
    subst e3
    exact whoS_none hn i x (mem_entS.1 he)
end
/-- What Of tells: the slot and its entry, or none. -/
def ofI (S : Sl) (p : Int) : Nat := (whoS S p).getD 0
def ofX (S : Sl) (p : Int) : En := match whoS S p with
  | some i => match S[i]? with
    | some (some q) => q.2
    | _ => ⟨0, 0, 0⟩
  | none => ⟨0, 0, 0⟩
def ofB (S : Sl) (p : Int) : Bool := (whoS S p).isSome
section
variable {w w' : World} {gs gm n : Nat} {S : Sl} {R : Nat → Prop}
theorem SpM.looks (h : SpM w gs gm n S) {p : Int} (hp : i64 p) : (Instr.lookup 53 (.map (some gm)) (.int .i64 p) true).run Try.prog w = .ok (.tuple #[.agg (scl (ofI S p) (ofX S p)).toArray, .bool (ofB S p)]) w := by
  obtain ⟨h1, h2⟩ := h.look hp
  unfold ofI ofX ofB
  cases e : whoS S p with
  | none => exact h2 e
  | some i =>
    obtain ⟨x, hx⟩ := whoS_some e
    rw [h1 i x e hx]
    dsimp only [Option.getD_some, Option.isSome_some]
    rw [hx]
/-- A slot is laid into a variable. -/
theorem boxSl (w : World) (i : Nat) (x : En) : ∃ w2, (storeVar 58 ⟨w.heap.size, 0, none⟩ (.agg (scl i x).toArray)).run Try.prog (w.alloc (.cells #[.int .i64 0, .int .u32 0, .int .u32 0, .int .u64 0] 58)) = .ok () w2 ∧ Blk w2 w.heap.size 58 (scl i x) ∧ Grow w w2 := by
  have hb : Blk (w.alloc (.cells #[.int .i64 0, .int .u32 0, .int .u32 0, .int .u64 0] 58)) w.heap.size 58 [.int .i64 0, .int .u32 0, .int .u32 0, .int .u64 0] := Blk.new (L := [.int .i64 0, .int .u32 0, .int .u32 0, .int .u64 0]) rfl
  obtain ⟨w2, h1, h2, h3⟩ := run_storeVar_at _ w.heap.size 0 58 58 [] [.int .i64 0, .int .u32 0, .int .u32 0, .int .u64 0] [] (scl i x) (by simpa using hb) rfl rfl (by rw [iSlot]; rfl) (scl_one i x)
  exact ⟨w2, h1, by simpa using h2, ((But.refl (fun _ => False) w).alloc _).then h3 (fun b hb e => by omega)⟩
/-- An entry is laid into a variable that is there. -/
theorem boxEn {w : World} {g : Nat} {L : List Value} (hL : L.length = 3) (hb : Blk w g 33 L) (x : En) : ∃ w2, (storeVar 33 ⟨g, 0, none⟩ (evalE x)).run Try.prog w = .ok () w2 ∧ Blk w2 g 33 (ecells x) ∧ But (· = g) w w2 := by
  obtain ⟨w2, h1, h2, h3⟩ := run_storeVar_at w g 0 33 33 [] L [] (ecells x) (by simpa using hb) rfl (by rw [hL]; rfl) (by rw [iEn]; rfl) (ecells_one x)
  exact ⟨w2, h1, by simpa using h2, h3⟩
theorem spnew_arg (w : World) (x : Int) (hx : ¬ (1 ≤ x ∧ x ≤ 256)) :
    Calls Try.prog 7 #[.int .i64 x] w fun e w' => e = .returned (.tuple #[.pointer none, .int .i64 1]) ∧ w' = w := by
  by_cases h1 : x < 1
  · go_enter Try.func7, Try.ntmps7
    go_wp2
    exact bodyPost_ret (results_tmp2 rfl _ _ _) rfl ⟨rfl, rfl⟩
  · have h2 : 256 < x := by omega
    clear hx
    go_enter Try.func7, Try.ntmps7
    go_wp2
    exact bodyPost_ret (results_tmp2 rfl _ _ _) rfl ⟨rfl, rfl⟩
theorem spnew_any (w : World) (n : Nat) (h1 : 1 ≤ n) (h2 : n ≤ 256) :
    Calls Try.prog 7 #[.int .i64 (n : Int)] w fun e w' => e = .returned (.tuple #[ptr (w.heap.size + 1), .int .i64 0]) ∧ SpM w' (w.heap.size + 1) w.heap.size n (List.replicate n none) ∧ Grow w w' := by
  obtain ⟨N, hN⟩ : ∃ N : Int, N = (n : Int) := ⟨_, rfl⟩
  obtain ⟨g, hg⟩ : ∃ g, g = w.heap.size := ⟨_, rfl⟩
  have HMM := Hid.mk' (mkM w 53)
  obtain ⟨w1, hw1⟩ : ∃ w1, w1 = w.alloc (.map #[] 0) := ⟨_, rfl⟩
  rw [← hg, ← hw1] at HMM
  have s1 : w1.heap.size = g + 1 := by rw [hw1, hg]; simp
  have k1 : Grow w w1 := by rw [hw1]; exact (But.refl _ w).alloc _
  have m1 : MapOf 3 w1 g (fun e : Int × Nat × En => iv e.1) slV [] := by rw [hw1]; exact MapOf.new _ hg.symm _ _
  have HF : Hid (SpM (w1.alloc (.cells #[.int .i64 N, .map (some g)] 55)) (g + 1) g n (List.replicate n none) ∧ Grow w (w1.alloc (.cells #[.int .i64 N, .map (some g)] 55))) := by
    have k2 : Grow w1 (w1.alloc (.cells #[.int .i64 N, .map (some g)] 55)) := (But.refl _ w1).alloc _
    refine ⟨⟨?_, by rw [entS_new]; exact m1.grow k2, List.length_replicate, h1, h2, SlOk.new n, by omega⟩, k1.trans k2⟩
    rw [hN]
    exact Blk.new (L := [.int .i64 (n : Int), .map (some g)]) s1
  have HS1 := Hid.mk' s1
  have i1 : ¬ (N < 1) := by omega
  have i2 : ¬ (256 < N) := by omega
  rw [← hg, ← hN]
  clear hN s1 k1 m1 hw1 hg h1 h2
  go_enter Try.func7, Try.ntmps7
  go_wp2_with (first
    | (refine wpList_runH rfl (exec_mkMap rfl HMM.out) ?_)
    | fail)
  rw [HS1.out]
  exact bodyPost_ret (results_tmp2 rfl _ _ _) rfl ⟨rfl, HF.out⟩
set_option maxRecDepth 100000 in
theorem spfree_any (h : SpM w gs gm n S) {p : Int} (hp : i64 p) : Calls Try.prog 11 #[ptr gs, .int .i64 p] w fun e w' => e = .returned (.tuple #[]) ∧ SpTo w gs gm n (freeS S p) w' := by
  have c1 : w.cell? ⟨gs, 1, none⟩ = some (.map (some gm)) := h.blk.cell 1
  obtain ⟨w1, hr, hm, hb, -⟩ := h.map.del (t := 53) (et := 58) (l' := entS (freeS S p)) keyIa Try.underlying53 (keyOfIa p hp) (by
    rintro ⟨q, i, x⟩
    rw [mem_entS, mem_entS]
    exact (freeS_at h.ok).trans (and_congr_right fun _ => ⟨fun e e2 => e (iv_inj e2), fun e e2 => e (by rw [e2])⟩)) 0
  have HF : Hid (SpTo w gs gm n (freeS S p) w1) := ⟨⟨h.blk.but hb h.ne, hm, by rw [freeS_len]; exact h.len, h.lo, h.hi, h.ok.freeS p, h.ne⟩, hb⟩
  have HR := Hid.mk' hr
  clear h hp hr hm hb
  go_enter Try.func11, Try.ntmps11
  go_wp2_with (first
    | (refine wpList_runH rfl (exec_delete rfl rfl rfl HR.out) ?_)
    | fail)
  exact bodyPost_end (results_none rfl _ _ _) rfl ⟨rfl, HF.out⟩
set_option maxRecDepth 100000 in
theorem spclear_any (h : SpM w gs gm n S) : Calls Try.prog 13 #[ptr gs] w fun e w' => e = .returned (.tuple #[]) ∧ SpTo w gs gm n (List.replicate n none) w' := by
  have c1 : w.cell? ⟨gs, 1, none⟩ = some (.map (some gm)) := h.blk.cell 1
  obtain ⟨w1, hr, hm, hb, -⟩ := h.map.clear (l' := entS (List.replicate n none)) Try.underlying53 (entS_new n) 0
  have HF : Hid (SpTo w gs gm n (List.replicate n none) w1) := ⟨⟨h.blk.but hb h.ne, hm, List.length_replicate, h.lo, h.hi, SlOk.new n, h.ne⟩, hb⟩
  have HR := Hid.mk' hr
  clear h hr hm hb
  go_enter Try.func13, Try.ntmps13
  go_wp2_with (first
    | (refine wpList_runH rfl (exec_clear rfl rfl HR.out) ?_)
    | fail)
  exact bodyPost_end (results_none rfl _ _ _) rfl ⟨rfl, HF.out⟩
theorem spfree_nil (w : World) (p : Int) : Calls Try.prog 11 #[.pointer none, .int .i64 p] w fun e w' => e = .returned (.tuple #[]) ∧ w' = w := by
  go_enter Try.func11, Try.ntmps11
  go_wp2
  exact bodyPost_end (results_none rfl _ _ _) rfl ⟨rfl, rfl⟩
theorem spclear_nil (w : World) : Calls Try.prog 13 #[.pointer none] w fun e w' => e = .returned (.tuple #[]) ∧ w' = w := by
  go_enter Try.func13, Try.ntmps13
  go_wp2
  exact bodyPost_end (results_none rfl _ _ _) rfl ⟨rfl, rfl⟩
theorem sppages_nil (w : World) : Calls Try.prog 17 #[.pointer none] w fun e w' => e = .returned (.slice none 0 0) ∧ w' = w := by
  go_enter Try.func17, Try.ntmps17
  go_wp2
  go_ret
  exact ⟨rfl, rfl⟩
end
end Go.Proofs.Ytehajgfjdmhdpaa
