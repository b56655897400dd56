/- latch: New, Holds, Waits, and what is done to one latch. -/
import Derived.Test.YtgldkckhliklhaaLtMem
import Derived.Deep.Cut
namespace Go.Proofs.Ytgldkckhliklhaa
open Go.RowKit Go.Maps

theorem zMapI (w : World) : (zeroValue 53).run Try.prog w = .ok (.map none) w := by kernel_rfl
theorem zLt (w : World) : (zeroValue 54).run Try.prog w = .ok (.pointer none) w := by kernel_rfl
theorem zWt (w : World) : (zeroValue 60).run Try.prog w = .ok (.agg #[.int .i64 0, .bool false]) w := by kernel_rfl
theorem iWt : (Try.prog.info? 60).map (·.size) = some 2 := by kernel_rfl
theorem look_nil {K : Int} (hK : i64 K) (w : World) : (Instr.lookup 53 (.map none) (.int .i64 K) false).run Try.prog w = .ok (.int .i64 0) w := by
  rcases keyIa.find w (keyOfIa K hK) [] (fun _ h => absurd h List.not_mem_nil) with ⟨h1, -⟩ | ⟨j, e0, -, h2, -⟩
  · simp [Instr.lookup, run_underlying Try.underlying53, keyIa.check w _ (keyOfIa K hK), h1, zInt w, Result.andThen]
  · simp at h2
theorem mapnil_f (b : Nat) (w : World) : (binOp .eql 53 (.map (some b)) (.map none)).run Try.prog w = .ok (.bool false) w := by kernel_rfl
theorem mapnil_t (w : World) : (binOp .eql 53 (.map none) (.map none)).run Try.prog w = .ok (.bool true) w := by kernel_rfl
theorem mapnil_l (b : Nat) (w : World) : (binOp .eql 48 (.map (some b)) (.map none)).run Try.prog w = .ok (.bool false) w := by kernel_rfl
theorem newl_bld (a b c : Nat) (w : World) : (Instr.build 52 #[(0, .map (some a)), (1, .map (some b)), (2, .map (some c))]).run Try.prog w = .ok (.agg #[.map (some a), .map (some b), .map (some c)]) w := run_build w _ _ _ (by kernel_rfl)
def ownL (g : Nat) : Owner := fun b => if b = g then .sto else if b = g + 1 then .map else if b = g + 2 then .wri else if b = g + 3 then .dev else .none
theorem ownL_ge {g b : Nat} (h : ownL g b ≠ .none) : g ≤ b ∧ b < g + 4 := by
  unfold ownL at h
  repeat' split at h
  all_goals first
    | omega
    | exact absurd rfl h
set_option maxRecDepth 100000 in
set_option maxHeartbeats 1000000 in
theorem newl_any (w : World) : Calls Try.prog 9 #[] w fun e w' => e = .returned (ptr (w.heap.size + 3)) ∧ Lt w' (ownL w.heap.size) (w.heap.size + 3) Ls.new ∧ Grow w w' := by
  have k1 : Grow w (w.alloc (.map #[] 0)) := (But.refl _ _).alloc _
  have s1 : (w.alloc (.map #[] 0)).heap.size = w.heap.size + 1 := by simp
  have m1 : MapOf 3 (w.alloc (.map #[] 0)) w.heap.size iv (fun _ => ptr 0) [] := MapOf.new _ rfl _ _
  obtain ⟨w1, hw1⟩ : ∃ w1, w1 = w.alloc (.map #[] 0) := ⟨_, rfl⟩
  rw [← hw1] at k1 s1 m1
  have k2 : Grow w1 (w1.alloc (.map #[] 0)) := (But.refl _ _).alloc _
  have s2 : (w1.alloc (.map #[] 0)).heap.size = w.heap.size + 2 := by simp [s1]
  have m2 : MapOf 3 (w1.alloc (.map #[] 0)) (w.heap.size + 1) iv (fun _ => .map (some 0)) [] := MapOf.new _ s1 _ _
  obtain ⟨w2, hw2⟩ : ∃ w2, w2 = w1.alloc (.map #[] 0) := ⟨_, rfl⟩
  rw [← hw2] at k2 s2 m2
  have k3 : Grow w2 (w2.alloc (.map #[] 0)) := (But.refl _ _).alloc _
  have s3 : (w2.alloc (.map #[] 0)).heap.size = w.heap.size + 3 := by simp [s2]
  have m3 : MapOf 3 (w2.alloc (.map #[] 0)) (w.heap.size + 2) (fun x : Wt => iv x.1) wtv [] := MapOf.new _ s2 _ _
  obtain ⟨w3, hw3⟩ : ∃ w3, w3 = w2.alloc (.map #[] 0) := ⟨_, rfl⟩
  rw [← hw3] at k3 s3 m3
  obtain ⟨w4, hw4⟩ : ∃ w4, w4 = w3.alloc (.cells #[.map (some w.heap.size), .map (some (w.heap.size + 1)), .map (some (w.heap.size + 1 + 1))] 52) := ⟨_, rfl⟩
  have k4 : Grow w3 w4 := by rw [hw4]; exact (But.refl _ _).alloc _
  have b4 : Blk w4 (w.heap.size + 3) 52 [.map (some w.heap.size), .map (some (w.heap.size + 1)), .map (some (w.heap.size + 2))] := by rw [hw4]; exact Blk.new (L := [.map (some w.heap.size), .map (some (w.heap.size + 1)), .map (some (w.heap.size + 2))]) s3
  have s4 : w4.heap.size = w.heap.size + 4 := by rw [hw4]; simp [s3]
  have HFIN : Hid (Lt w4 (ownL w.heap.size) (w.heap.size + 3) Ls.new ∧ Grow w w4) := by
    refine ⟨⟨w.heap.size, w.heap.size + 1, w.heap.size + 2, fun _ => 0, fun _ => 0, [], [], b4, m1.grow (k2.trans (k3.trans k4)), m2.grow (k3.trans k4), m3.grow k4, fun k hk => absurd hk List.not_mem_nil, fun x hx => hx.elim (fun h => absurd h List.not_mem_nil) (fun h => absurd h List.not_mem_nil), fun t ht => absurd ht List.not_mem_nil, fun x hx => absurd hx List.not_mem_nil, ?_, ?_, ?_, ?_, fun k hk => absurd hk List.not_mem_nil, fun k hk => absurd hk List.not_mem_nil, Nat.zero_le _, Nat.zero_le _, fun b hb => ?_⟩, k1.trans (k2.trans (k3.trans k4))⟩
    · unfold ownL; rw [if_neg (by omega), if_neg (by omega), if_neg (by omega), if_pos rfl]
    · unfold ownL; rw [if_pos rfl]
    · unfold ownL; rw [if_neg (by omega), if_pos rfl]
    · unfold ownL; rw [if_neg (by omega), if_neg (by omega), if_pos rfl]
    · cases ho : ownL w.heap.size b with
      | none => rfl
      | _ => have := ownL_ge (g := w.heap.size) (b := b) (by rw [ho]; exact fun e => nomatch e); omega
  have HW : Hid (w4 = ((((w.alloc (.map #[] 0)).alloc (.map #[] 0)).alloc (.map #[] 0)).alloc (.cells #[.map (some w.heap.size), .map (some (w.heap.size + 1)), .map (some (w.heap.size + 1 + 1))] 52))) := by show _ = _; rw [hw4, hw3, hw2, hw1]
  clear k1 s1 m1 k2 s2 m2 k3 s3 m3 k4 b4 s4 hw1 hw2 hw3 hw4
  go_enter Try.func9, Try.ntmps9
  go_wp2_with (first
    | (refine wpList_runH rfl (exec_mkMap rfl (mkM _ _)) ?_)
    | (refine wpList_build_run rfl _ [_, _, _] rfl [(0, .map (some w.heap.size)), (1, .map (some (w.heap.size + 1))), (2, .map (some (w.heap.size + 1 + 1)))] rfl _ (newl_bld _ _ _ _) ?_)
    | fail)
  rw [← HW.out]
  go_ret
  exact ⟨by simp, HFIN.out⟩
section
variable {w w' : World} {g : Nat} {n : Nat} {a al : Bool} {v : Value}
set_option maxRecDepth 100000 in
theorem lfree_any (h : Blk w g 67 [.int .i64 (n : Int), .bool a, v]) : Calls Try.prog 30 #[ptr g, .bool al] w fun e w' => e = .returned (.bool (!a && (!al || n == 0))) ∧ w' = w := by
  have c0 : w.cell? ⟨g, 0, none⟩ = some (.int .i64 (n : Int)) := h.cell 0
  have c1 : w.cell? ⟨g, 1, none⟩ = some (.bool a) := h.cell 1
  clear h
  cases a <;> cases al
  · go_enter Try.func30, Try.ntmps30
    go_wp2
    go_ret
    exact ⟨rfl, rfl⟩
  · by_cases h0 : n = 0
    · subst h0
      go_enter Try.func30, Try.ntmps30
      go_wp2
      go_ret
      exact ⟨rfl, rfl⟩
    · have h1 : ((n : Int) == 0) = false := by simpa using h0
      have h2 : (n == 0) = false := by simpa using h0
      have HE : Hid ((!false && (!true || n == 0)) = false) := by show _ = _; rw [h2]; rfl
      rw [HE.out]
      clear h0
      go_enter Try.func30, Try.ntmps30
      go_wp2
      go_ret
      exact ⟨rfl, rfl⟩
  · go_enter Try.func30, Try.ntmps30
    go_wp2
    go_ret
    exact ⟨rfl, rfl⟩
  · go_enter Try.func30, Try.ntmps30
    go_wp2
    go_ret
    exact ⟨rfl, rfl⟩
set_option maxRecDepth 100000 in
theorem ltake_alone (h : Blk w g 67 [.int .i64 (n : Int), .bool a, v]) : Calls Try.prog 32 #[ptr g, .bool true] w fun e w' => e = .returned (.int .i64 2) ∧ w' = w.setCell ⟨g, 1, none⟩ (.bool true) := by
  have c1 : w.cell? ⟨g, 1, none⟩ = some (.bool a) := h.cell 1
  have f1 : w.frozen? ⟨g, 1, none⟩ = false := h.free 1
  clear h
  go_enter Try.func32, Try.ntmps32
  go_wp2
  go_ret
  exact ⟨rfl, rfl⟩
set_option maxRecDepth 100000 in
theorem ltake_shared (h : Blk w g 67 [.int .i64 (n : Int), .bool a, v]) (hn : n ≤ 100000) : Calls Try.prog 32 #[ptr g, .bool false] w fun e w' => e = .returned (.int .i64 1) ∧ w' = w.setCell ⟨g, 0, none⟩ (.int .i64 ((n + 1 : Nat) : Int)) := by
  have c0 : w.cell? ⟨g, 0, none⟩ = some (.int .i64 (n : Int)) := h.cell 0
  have f0 : w.frozen? ⟨g, 0, none⟩ = false := h.free 0
  have hi : (n : Int) ≤ 100000 := by omega
  clear h hn
  go_enter Try.func32, Try.ntmps32
  go_wp2
  go_ret
  exact ⟨rfl, by push_cast; rfl⟩
set_option maxRecDepth 100000 in
theorem ldrop_alone (h : Blk w g 67 [.int .i64 (n : Int), .bool a, v]) : Calls Try.prog 22 #[ptr g, .int .i64 2] w fun e w' => e = .returned (.tuple #[]) ∧ w' = w.setCell ⟨g, 1, none⟩ (.bool false) := by
  have c1 : w.cell? ⟨g, 1, none⟩ = some (.bool a) := h.cell 1
  have f1 : w.frozen? ⟨g, 1, none⟩ = false := h.free 1
  clear h
  go_enter Try.func22, Try.ntmps22
  go_wp2
  go_end0
  exact ⟨rfl, rfl⟩
set_option maxRecDepth 100000 in
theorem ldrop_shared (h : Blk w g 67 [.int .i64 ((n + 1 : Nat) : Int), .bool a, v]) (hn : n ≤ 100000) : Calls Try.prog 22 #[ptr g, .int .i64 1] w fun e w' => e = .returned (.tuple #[]) ∧ w' = w.setCell ⟨g, 0, none⟩ (.int .i64 (n : Int)) := by
  obtain ⟨m, hm⟩ : ∃ m : Int, m = ((n + 1 : Nat) : Int) := ⟨_, rfl⟩
  have c0 : w.cell? ⟨g, 0, none⟩ = some (.int .i64 m) := by rw [hm]; exact h.cell 0
  have f0 : w.frozen? ⟨g, 0, none⟩ = false := h.free 0
  have h1 : m ≤ 200000 := by omega
  have h2 : 0 ≤ m := by omega
  have e1 : m - 1 = (n : Int) := by omega
  clear h hn hm
  go_enter Try.func22, Try.ntmps22
  go_wp2
  go_end0
  exact ⟨rfl, rfl⟩
end
section
variable {w w' : World} {own own' : Owner} {gt gl gh gw : Nat} {lb hb : Int → Nat} {KL TL : List Int} {c : Lc} {s : Ls} {R : Nat → Prop} {T : Tag}
theorem Lm.lookL (h : Lm w own gt gl gh gw lb hb KL TL c) {k : Int} (hk : i64 k) : (k ∈ KL → (Instr.lookup 48 (.map (some gl)) (.int .i64 k) false).run Try.prog w = .ok (ptr (lb k)) w) ∧ (k ∉ KL → (Instr.lookup 48 (.map (some gl)) (.int .i64 k) false).run Try.prog w = .ok (.pointer none) w) := by
  have hl := h.lat.look (t := 48) (et := 54) keyIa Try.underlying48 zLt (keyOfIa k hk) false
  exact ⟨fun hm => hl.1 k hm rfl, fun hm => hl.2 (fun x hx e => hm (by rw [← iv_inj e]; exact hx))⟩
theorem Lm.lookH (h : Lm w own gt gl gh gw lb hb KL TL c) {t : Int} (ht : i64 t) : (t ∈ TL → (Instr.lookup 49 (.map (some gh)) (.int .i64 t) false).run Try.prog w = .ok (.map (some (hb t))) w) ∧ (t ∉ TL → (Instr.lookup 49 (.map (some gh)) (.int .i64 t) false).run Try.prog w = .ok (.map none) w) := by
  have hl := h.hel.look (t := 49) (et := 53) keyIa Try.underlying49 zMapI (keyOfIa t ht) false
  exact ⟨fun hm => hl.1 t hm rfl, fun hm => hl.2 (fun x hx e => hm (by rw [← iv_inj e]; exact hx))⟩
/-- How a task has a key, by what is said of tasks. -/
def holdL (l : List Wt) (t k : Int) : Int := ((l.find? (fun x => x.1 == t && x.2.1 == k)).map mode).getD 0
theorem holdL_of {l : List Wt} (hn : (l.map (fun x => (x.1, x.2.1))).Nodup) {x : Wt} (hx : x ∈ l) : holdL l x.1 x.2.1 = mode x := by
  unfold holdL
  cases hf : l.find? (fun y => y.1 == x.1 && y.2.1 == x.2.1) with
  | none => exact absurd (List.find?_eq_none.1 hf x hx) (by simp)
  | some y =>
    have h1 := List.mem_of_find?_eq_some hf
    have h2 := List.find?_some hf
    simp only [Bool.and_eq_true, beq_iff_eq] at h2
    have : y = x := by
      obtain ⟨i, hi⟩ := List.getElem?_of_mem h1
      obtain ⟨j, hj⟩ := List.getElem?_of_mem hx
      have hij : i = j := (List.getElem?_inj (l := l.map (fun x => (x.1, x.2.1))) (by rw [List.length_map]; exact (List.getElem?_eq_some_iff.1 hi).1) hn).1 (by rw [List.getElem?_map, List.getElem?_map, hi, hj]; simp [h2.1, h2.2])
      subst hij
      rw [hi] at hj
      simpa using hj
    rw [this]; rfl
theorem holdL_none {l : List Wt} {t k : Int} (h : ∀ x ∈ l, x.1 = t → x.2.1 ≠ k) : holdL l t k = 0 := by
  unfold holdL
  rw [List.find?_eq_none.2 (fun x hx e => by
    simp only [Bool.and_eq_true, beq_iff_eq] at e
    exact h x hx e.1 e.2)]
  rfl
theorem Lm.lookM (h : Lm w own gt gl gh gw lb hb KL TL c) (hn : (c.hm.map (fun x => (x.1, x.2.1))).Nodup) {t k : Int} (ht : t ∈ TL) (hk : i64 k) : (Instr.lookup 53 (.map (some (hb t))) (.int .i64 k) false).run Try.prog w = .ok (.int .i64 (holdL c.hm t k)) w := by
  have hl := (h.mps t ht).look (t := 53) (et := 3) keyIa Try.underlying53 zInt (keyOfIa k hk) false
  by_cases hh : ∃ x ∈ c.hm, x.1 = t ∧ x.2.1 = k
  · obtain ⟨x, hx, rfl, rfl⟩ := hh
    rw [holdL_of hn hx]
    exact hl.1 x (List.mem_filter.2 ⟨hx, by simp⟩) rfl
  · rw [holdL_none (fun x hx e1 e2 => hh ⟨x, hx, e1, e2⟩)]
    exact hl.2 (fun x hx e => by
      obtain ⟨h1, h2⟩ := List.mem_filter.1 hx
      exact hh ⟨x, h1, by simpa using h2, iv_inj e⟩)
set_option maxRecDepth 100000 in
theorem holds_any (h : Lt w own gt s) (hok : Lok s) {t k : Int} (ht : i64 t) (hk : i64 k) : Calls Try.prog 18 #[ptr gt, .int .i64 t, .int .i64 k] w fun e w' => e = .returned (.int .i64 (s.hold t k)) ∧ w' = w := by
  obtain ⟨gl, gh, gw, lb, hb, KL, TL, h⟩ := h
  have c1 : w.cell? ⟨gt, 1, none⟩ = some (.map (some gh)) := h.blk.cell 1
  obtain ⟨z, hz⟩ : ∃ z, z = s.hold t k := ⟨_, rfl⟩
  rw [← hz]
  by_cases hm : t ∈ TL
  · have HL := Hid.mk' ((h.lookH ht).1 hm)
    have hl2 := h.lookM hok.hn hm hk
    rw [show holdL s.c.hm t k = z from hz.symm] at hl2
    have HL2 := Hid.mk' hl2
    clear h hok ht hk hm hl2 hz
    go_enter Try.func18, Try.ntmps18
    go_wp2_with (first
      | (refine wpList_runH rfl (exec_lookup rfl rfl rfl HL.out) ?_)
      | (refine wpList_runH rfl (exec_lookup rfl rfl rfl HL2.out) ?_)
      | fail)
    go_ret
    exact ⟨rfl, rfl⟩
  · have HL := Hid.mk' ((h.lookH ht).2 hm)
    have hz0 : z = 0 := by
      rw [hz]
      exact holdL_none (fun x hx e => absurd (by rw [← e]; exact h.nom x hx) hm)
    subst hz0
    have HL2 := Hid.mk' (look_nil hk w)
    clear h hok ht hk hm hz
    go_enter Try.func18, Try.ntmps18
    go_wp2_with (first
      | (refine wpList_runH rfl (exec_lookup rfl rfl rfl HL.out) ?_)
      | (refine wpList_runH rfl (exec_lookup rfl rfl rfl HL2.out) ?_)
      | fail)
    go_ret
    exact ⟨rfl, rfl⟩
theorem holds_nil (w : World) (t k : Int) : Calls Try.prog 18 #[.pointer none, .int .i64 t, .int .i64 k] w fun e w' => e = .returned (.int .i64 0) ∧ w' = w := by
  go_enter Try.func18, Try.ntmps18
  go_wp2
  go_ret
  exact ⟨rfl, rfl⟩
end
end Go.Proofs.Ytgldkckhliklhaa
