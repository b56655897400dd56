/- New. -/
import Derived.Test.YtcikldklacgafaaDvFlush
import Derived.Laws.MakeOwn
namespace Go.Proofs.Ytcikldklacgafaa
open Go.RowKit

/-- A device on which nothing was done. -/
def Dev.of (st : List (List Nat)) : Dev := ⟨st, [], [], [], 0, 0, true⟩
def Dev.fresh (n : Nat) : Dev := Dev.of (List.replicate n z256)
theorem z256_wf : wf256 z256 := ⟨List.length_replicate, fun z hz => by rw [(List.mem_replicate.1 hz).2]; decide⟩
theorem of_ok {st : List (List Nat)} (h1 : 1 ≤ st.length) (h2 : st.length ≤ 65536) (h3 : ∀ c ∈ st, wf256 c) : (Dev.of st).ok :=
  ⟨h1, h2, h3, fun _ he => absurd he List.not_mem_nil, .nil, fun _ hi => absurd hi List.not_mem_nil, fun _ hm => absurd hm List.not_mem_nil⟩
theorem infC : (Try.prog.info? 62).map (fun i => (i.zero, i.size, i.bytes)) = some (some (.agg (u8s z256).toArray), 256, 256) := by kernel_rfl
theorem flat_rep (n m : Nat) : (List.replicate n (List.replicate m 0)).flatMap u8s = u8s (List.replicate (n * m) 0) := by
  induction n with
  | zero => simp
  | succ n ih =>
    rw [List.replicate_succ, List.flatMap_cons, ih, Nat.succ_mul, Nat.add_comm, ← List.replicate_append_replicate]
    unfold u8s
    rw [List.map_append]
theorem made_zero (m k : Nat) (hm : 0 < m) : madeCells (u8s (List.replicate m 0)).toArray k = (u8s (List.replicate k 0)).toArray := by
  apply Array.ext
  · simp [madeCells, u8s]
  · intro i h1 h2
    have h3 : i % m < m := Nat.mod_lt _ hm
    simp [madeCells, u8s, h3]
theorem made_conts (n : Nat) : madeCells (Value.cells (.agg (u8s z256).toArray)) (n * 256) = ((List.replicate n z256).flatMap u8s).toArray := by
  unfold z256
  rw [flat_rep]
  exact made_zero 256 (n * 256) (by decide)
theorem make_conts (w : World) (n : Nat) (h : n ≤ 65536) : (Instr.makeSlice 50 (.int .i64 (n : Int)) (.int .i64 (n : Int))).run Try.prog w = .ok (.slice (some ⟨w.heap.size, 0, none⟩) n n) (w.alloc (.cells ((List.replicate n z256).flatMap u8s).toArray 62)) := by
  obtain ⟨i, hi, hz, hs, hby⟩ := info_parts infC
  have h1 := run_make (P := Try.prog) w 50 62 i _ Try.underlying50 hi hz .i64 .i64 (n : Int) (n : Int) (by omega) (Int.le_refl _) (by rw [hby]; omega) (by omega)
  have e : (n : Int).toNat * i.size = n * 256 := by rw [hs]; omega
  rw [e, made_conts] at h1
  exact h1
theorem exec_make {w w' : World} {o : Oper} {ρ : Operand → Value} {t : TypeId} {x y : Operand} {u v r : Value} (ho : o.op = .makeSlice t x y) (hx : ρ x = u) (hy : ρ y = v) (h : (Instr.makeSlice t u v).run Try.prog w = .ok r w') : (execOp ρ o).run Try.prog w = .ok (.value r) w' := by
  unfold execOp
  simp only [ho, hx, hy, Sem.run_bind, h, Result.andThen_ok, Sem.run_pure]
theorem mk_map (w : World) : (Instr.makeMap 51 none).run Try.prog w = .ok (.map (some w.heap.size)) (w.alloc (.map #[] 0)) := by
  simp [Instr.makeMap]
theorem exec_makeMap {w w' : World} {o : Oper} {ρ : Operand → Value} {t : TypeId} {r : Value} (ho : o.op = .makeMap t none) (h : (Instr.makeMap t none).run Try.prog w = .ok r w') : (execOp ρ o).run Try.prog w = .ok (.value r) w' := by
  unfold execOp
  simp only [ho, Option.map_none, Sem.run_bind, h, Result.andThen_ok, Sem.run_pure]
theorem built_dev (a : Addr) (n m b : Nat) (w : World) : (Instr.build 55 #[(0, .slice (some a) n m), (2, .map (some b)), (6, .bool true)]).run Try.prog w = .ok (.agg #[.slice (some a) n m, .slice none 0 0, .map (some b), .slice none 0 0, .int .i64 0, .int .i64 0, .bool true]) w := run_build w _ _ _ (by kernel_rfl)
theorem new_arg (w : World) (x : Int) (hx : ¬ (1 ≤ x ∧ x ≤ 65536)) :
    Calls Try.prog 13 #[.int .i64 x] w fun e w' => e = .returned (.tuple #[.pointer none, .int .i64 1]) ∧ w' = w := by
  by_cases h1 : x < 1
  · go_enter Try.func13, Try.ntmps13
    go_wp2
    exact bodyPost_ret (results_tmp2 rfl _ _ _) rfl ⟨rfl, rfl⟩
  · have h2 : 65536 < x := by omega
    clear hx
    go_enter Try.func13, Try.ntmps13
    go_wp2
    exact bodyPost_ret (results_tmp2 rfl _ _ _) rfl ⟨rfl, rfl⟩
/-- A device, new since w. -/
structure DvN (w0 w : World) (own : Owner) (gd : Nat) (s : Dev) : Prop where
  dv : Dv w own gd s
  grow : Grow w0 w
  new : ∀ b, own b ≠ .none → w0.heap.size ≤ b
theorem DvN.then {w0 w w1 : World} {own : Owner} {gd : Nat} {s : Dev} (h : DvN w0 w own gd s) (k : Grow w w1) : DvN w0 w1 own gd s := ⟨h.dv.grow k, h.grow.trans k, h.new⟩
theorem DvN.to {w0 w w1 : World} {own : Owner} {gd : Nat} {s s1 : Dev} (h : DvN w0 w own gd s) (k : DvTo w own gd s1 w1) : ∃ own1, DvN w0 w1 own1 gd s1 ∧ Fresh w own own1 := by
  obtain ⟨own1, h1, h2⟩ := k.ex
  refine ⟨own1, ⟨h2, h.grow.then k.but (fun i hi e => by have := h.new i e; omega), fun b hb => ?_⟩, h1⟩
  by_cases hq : own1 b = own b
  · exact h.new b (by rw [← hq]; exact hb)
  · exact Nat.le_trans h.grow.size (h1 b hq)
theorem DvN.fresh {w w1 w2 w3 : World} {g n : Nat} {st : List (List Nat)} {C : List Value} (hl : st.length = n) (h1 : 1 ≤ n) (h2 : n ≤ 65536) (h3 : ∀ c ∈ st, wf256 c) (hC : C = st.flatMap u8s) (hg : g = w.heap.size)
    (hw1 : w1 = w.alloc (.cells C.toArray 62)) (hw2 : w2 = w1.alloc (.map #[] 0)) (hw3 : w3 = w2.alloc (.cells #[.slice (some ⟨g, 0, none⟩) n n, .slice none 0 0, .map (some (g + 1)), .slice none 0 0, .int .i64 0, .int .i64 0, .bool true] 55)) : ∃ own, DvN w w3 own (g + 2) (Dev.of st) := by
  have s1 : w1.heap.size = g + 1 := by rw [hw1, hg]; simp
  have s2 : w2.heap.size = g + 2 := by rw [hw2]; simp [s1]
  have s3 : w3.heap.size = g + 3 := by rw [hw3]; simp [s2]
  have k12 : Grow w1 w2 := by rw [hw2]; exact (But.refl _ w1).alloc _
  have k23 : Grow w2 w3 := by rw [hw3]; exact (But.refl _ w2).alloc _
  have b1 : Blk w1 g 62 C := by rw [hw1]; exact Blk.new hg.symm
  have m2 : Mq Try.prog 3 w2 (g + 1) [] := by rw [hw2]; exact Mq.new (g + 1) s1
  have b3 : Blk w3 (g + 2) 55 [.slice (some ⟨g, 0, none⟩) n n, .slice none 0 0, .map (some (g + 1)), .slice none 0 0, .int .i64 0, .int .i64 0, .bool true] := by rw [hw3]; exact Blk.new (L := [.slice (some ⟨g, 0, none⟩) n n, .slice none 0 0, .map (some (g + 1)), .slice none 0 0, .int .i64 0, .int .i64 0, .bool true]) s2
  obtain ⟨own, o1, o2, o3, ho⟩ : ∃ own : Owner, own g = .sto ∧ own (g + 1) = .map ∧ own (g + 2) = .dev ∧ ∀ b, own b ≠ .none → g ≤ b ∧ b < g + 3 := by
    refine ⟨fun b => if b = g then .sto else if b = g + 1 then .map else if b = g + 2 then .dev else .none, by simp, by simp, by simp, fun b hb => ?_⟩
    by_cases e1 : b = g
    · omega
    · by_cases e2 : b = g + 1
      · omega
      · by_cases e3 : b = g + 2
        · omega
        · exact absurd (by simp [e1, e2, e3]) hb
  refine ⟨own, ⟨g, .slice none 0 0, g + 1, .slice none 0 0, ?_, o3, ?_, o1, ?_, RowOf.nil _ _ _ _, o2, ⟨[], m2.but k23 (fun h => h), fun p hp => absurd hp List.not_mem_nil, fun b hb => absurd rfl hb⟩, ⟨[], rfl, RowOf.nil _ _ _ _, fun e he => absurd he List.not_mem_nil⟩, of_ok (by omega) (by omega) h3⟩, ?_, fun b hb => by have := ho b hb; omega⟩
  · intro b hb
    by_cases hq : own b = .none
    · exact hq
    · have := ho b hq; omega
  · show Blk w3 (g + 2) _ [.slice (some ⟨g, 0, none⟩) st.length st.length, _, _, _, _, _, _]
    rw [hl]; exact b3
  · show Blk w3 g _ (st.flatMap u8s)
    rw [← hC]; exact (b1.but k12 (fun h => h)).but k23 (fun h => h)
  · have k01 : Grow w w1 := by rw [hw1]; exact (But.refl _ w).alloc _
    exact (k01.trans k12).trans k23
set_option maxRecDepth 100000 in
set_option maxHeartbeats 1000000 in
theorem new_any (w : World) (n : Nat) (h1 : 1 ≤ n) (h2 : n ≤ 65536) :
    Calls Try.prog 13 #[.int .i64 (n : Int)] w fun e w' => ∃ gd own, e = .returned (.tuple #[.pointer (some ⟨gd, 0, none⟩), .int .i64 0]) ∧ DvN w w' own gd (Dev.fresh n) := by
  have HMK := Hid.mk' (make_conts w n h2)
  obtain ⟨st, hst⟩ : ∃ st, st = List.replicate n z256 := ⟨_, rfl⟩
  rw [← hst] at HMK
  obtain ⟨C, hC⟩ : ∃ C, C = st.flatMap u8s := ⟨_, rfl⟩
  rw [← hC] at HMK
  obtain ⟨g, hg⟩ : ∃ g, g = w.heap.size := ⟨_, rfl⟩
  have HBD := Hid.mk' (built_dev ⟨g, 0, none⟩ n n (g + 1))
  have hl : st.length = n := by rw [hst, List.length_replicate]
  have hwf : ∀ c ∈ st, wf256 c := fun c hc => by rw [hst] at hc; rw [(List.mem_replicate.1 hc).2]; exact z256_wf
  have HFIN := Hid.mk' (fun (w1 w2 w3 : World) a b c => DvN.fresh (w := w) (w1 := w1) (w2 := w2) (w3 := w3) hl h1 h2 hwf hC hg a b c)
  have HSZ : Hid ((w.alloc (.cells C.toArray 62)).heap.size = g + 1) := by show _ = _; simp [hg]
  have HGE := Hid.mk' hg
  have hi1 : ¬ ((n : Int) < 1) := by omega
  have hi2 : ¬ (65536 < (n : Int)) := by omega
  rw [← hg] at HMK
  have HMM := Hid.mk' (mk_map (w.alloc (.cells C.toArray 62)))
  rw [HSZ.out] at HMM
  have HST := Hid.mk' hst
  clear hC h1 h2 hg hl hwf hst
  go_enter Try.func13, Try.ntmps13
  go_upto_region 3 with fail
  go_wp2_with (first
    | (refine wpList_run rfl (exec_make rfl rfl rfl HMK.out) ?_)
    | (refine wpList_run rfl (exec_makeMap rfl HMM.out) ?_)
    | (refine wpList_build_run rfl _ [_, _, _] rfl _ rfl _ (HBD.out _) ?_)
    | fail)
  obtain ⟨own, hd⟩ := HFIN.out _ _ _ rfl rfl rfl
  refine bodyPost_ret (results_tmp2 rfl _ _ _) rfl ⟨g + 2, ?_, own, ?_⟩
  · have := HGE.out
    subst this
    rfl
  · unfold Dev.fresh; rw [← HST.out]; exact hd
end Go.Proofs.Ytcikldklacgafaa
