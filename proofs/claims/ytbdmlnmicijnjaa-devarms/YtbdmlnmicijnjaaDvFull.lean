/- The law's full; a chain of writes. -/
import Derived.Test.YtbdmlnmicijnjaaDvOn
namespace Go.Proofs.Ytbdmlnmicijnjaa
open Go.RowKit

def fullOf (xs : List Nat) : List Nat := xs.take 256 ++ List.replicate (256 - xs.length) 0
def fullTo (xs : List Nat) (k : Nat) : List Nat := xs.take k ++ List.replicate (256 - k) 0
theorem fullTo_len {xs : List Nat} {k : Nat} (h1 : k ≤ xs.length) (h2 : k ≤ 256) : (fullTo xs k).length = 256 := by
  unfold fullTo; rw [List.length_append, List.length_take, List.length_replicate]; omega
theorem fullOf_wf {xs : List Nat} (h : ∀ z ∈ xs, z < 256) : wf256 (fullOf xs) := by
  refine ⟨?_, fun z hz => ?_⟩
  · unfold fullOf; rw [List.length_append, List.length_take, List.length_replicate]; omega
  · rcases List.mem_append.1 hz with hz | hz
    · exact h z (List.mem_of_mem_take hz)
    · rw [(List.mem_replicate.1 hz).2]; decide
theorem fullTo_next {xs : List Nat} {k : Nat} (h1 : k < xs.length) (h2 : k < 256) : (fullTo xs k).set k (xs.getD k 0) = fullTo xs (k + 1) := by
  unfold fullTo
  rw [List.set_append_right _ _ (by rw [List.length_take]; omega), List.length_take, Nat.min_eq_left (by omega), Nat.sub_self, show 256 - k = (256 - (k + 1)) + 1 by omega, List.replicate_succ, List.set_cons_zero, List.take_succ_eq_append_getElem h1, List.append_assoc]
  simp [List.getD, h1]
theorem fullTo_all {xs : List Nat} {k : Nat} (h : (k = xs.length ∧ k ≤ 256) ∨ (k = 256 ∧ k ≤ xs.length)) : fullTo xs k = fullOf xs := by
  unfold fullTo fullOf
  rcases h with ⟨h1, h2⟩ | ⟨h1, h2⟩
  · rw [List.take_of_length_le (by omega), List.take_of_length_le (by omega), h1]
  · rw [h1, show 256 - 256 = 256 - xs.length by omega]
theorem infB : (Try.prog.info? 5).map (fun i => (i.zero, i.size, i.bytes)) = some (some (.int .u8 0), 1, 1) := by kernel_rfl
theorem made_b (n : Nat) : madeCells (Value.cells (.int .u8 0)) n = (u8s (List.replicate n 0)).toArray := by
  apply Array.ext
  · simp [madeCells, u8s]
  · intro i h1 h2
    simp [madeCells, u8s, Value.cells, Nat.mod_one]
theorem make_b (w : World) (n : Nat) (h : n ≤ 100000) : (Instr.makeSlice 32 (.int .i64 (n : Int)) (.int .i64 (n : Int))).run Try.prog w = .ok (.slice (some ⟨w.heap.size, 0, none⟩) n n) (w.alloc (.cells (u8s (List.replicate n 0)).toArray 5)) := by
  obtain ⟨i, hi, hz, hs, hby⟩ := info_parts infB
  have h1 := run_make (P := Try.prog) w 32 5 i _ Try.underlying32 hi hz .i64 .i64 (n : Int) (n : Int) (by omega) (Int.le_refl _) (by rw [hby]; omega) (by omega)
  have e : (n : Int).toNat * i.size = n := by rw [hs]; omega
  rw [e, made_b] at h1
  exact h1
/-- A row of 256 bytes, new since w. -/
structure FullIs (w : World) (D : List Nat) (e : Ending) (w' : World) : Prop where
  ex : ∃ g, e = .returned (.slice (some ⟨g, 0, none⟩) 256 256) ∧ w.heap.size ≤ g ∧ Ow w' w.heap.size (.slice (some ⟨g, 0, none⟩) 256 256) D
  grow : Grow w w'
set_option maxRecDepth 100000 in
set_option maxHeartbeats 2000000 in
theorem full_any {w : World} {v : Value} {xs : List Nat} (hv : Bs w v xs) :
    Calls Try.prog 26 #[v] w (FullIs w (fullOf xs)) := by
  have HMK := Hid.mk' (make_b w 256 (by omega))
  obtain ⟨Z, hZ⟩ : ∃ Z, Z = List.replicate 256 (0 : Nat) := ⟨_, rfl⟩
  rw [← hZ] at HMK
  obtain ⟨g, hg⟩ : ∃ g, g = w.heap.size := ⟨_, rfl⟩
  obtain ⟨W0, hW0⟩ : ∃ W0, W0 = w.alloc (.cells (u8s Z).toArray 5) := ⟨_, rfl⟩
  have hG0 : Grow w W0 := by rw [hW0]; exact (But.refl _ w).alloc _
  have hZl : Z.length = 256 := by rw [hZ]; exact List.length_replicate
  have hO0 : Ow W0 w.heap.size (.slice (some ⟨g, 0, none⟩) 256 256) (fullTo xs 0) := by
    have hb : Blk W0 g 5 (u8s Z ++ []) := by rw [List.append_nil, hW0]; exact Blk.new hg.symm
    have := Ow.shu (base := w.heap.size) (cap := 256) hb (by omega) (fun z hz => by rw [hZ] at hz; rw [(List.mem_replicate.1 hz).2]; decide) (by omega) (by simp [hZl]) (by omega) (by unfold maxLen; omega)
    rw [hZl] at this
    have e : fullTo xs 0 = Z := by unfold fullTo; rw [hZ]; rfl
    rw [e]; exact this
  rw [← hg, ← hW0] at HMK
  have HO0 := Hid.mk' hO0
  have HG0 := Hid.mk' hG0
  have HGE := Hid.mk' hg
  have HV0 := Hid.mk' (hv.but hG0 (fun _ _ _ h => h))
  have HNB : Hid (0 < xs.length → v.ownBlock ≠ some g) := fun h0 => hv.own h0 (by omega)
  obtain ⟨ao, cap, rfl, -⟩ := hv.gen
  have hxl : xs.length ≤ 281474976710656 := hv.2.1
  obtain ⟨l, hl⟩ : ∃ l, l = xs.length := ⟨_, rfl⟩
  have HL := Hid.mk' hl
  rw [← hl] at HV0 hxl HNB ⊢
  clear hv hG0 hO0 hZl hZ hW0 hg hl
  go_enter Try.func26, Try.ntmps26
  go_wp2_with (first
    | (refine wpList_run rfl (exec_make rfl rfl rfl HMK.out) ?_)
    | fail)
  go_loopw [4] (fun iv wr => ∃ k : Nat, k ≤ l ∧ k ≤ 256 ∧ iv = .int .i64 k ∧ Ow wr w.heap.size (.slice (some ⟨g, 0, none⟩) 256 256) (fullTo xs k) ∧ Bs wr (.slice ao l cap) xs ∧ Grow w wr) (fun iv _ => l - (intOf iv).toNat)
  case atStart => exact ⟨0, Nat.zero_le _, by decide, rfl, HO0.out, HV0.out, HG0.out⟩
  case round =>
    clear HO0 HV0 HG0
    obtain ⟨k, hkl, hk2, rfl, hO, hV, hG⟩ := hrel
    have HO := Hid.mk' hO
    have HV := Hid.mk' hV
    have HG := Hid.mk' hG
    rcases (by omega : (k < l ∧ k < 256) ∨ (¬ k < l) ∨ (k < l ∧ ¬ k < 256)) with ⟨hlt, hk⟩ | hlt | ⟨hlt, hk⟩
    · have hlti : (k : Int) < (l : Int) := by omega
      have hki : (k : Int) < 256 := by omega
      have hkx : k < xs.length := by rw [← HL.out]; exact hlt
      obtain ⟨h1, h2, ⟨rfl, -⟩ | ⟨h0, b, off, cap', e, hcap, hbl, hcell⟩⟩ := hV
      · simp at hkx
      simp only [Value.slice.injEq] at e
      obtain ⟨rfl, -, rfl⟩ := e
      have cb := hcell k hkx
      obtain ⟨z, hz⟩ : ∃ z, z = xs.getD k 0 := ⟨_, rfl⟩
      rw [← hz] at cb
      have HZ256 : Hid (z < 256) := by rw [hz]; exact h1 _ (getD_mem xs k hkx)
      obtain ⟨g', cp, R, e, hge, hb, hR, hc, hm⟩ := hO.opn (by rw [fullTo_len (by omega) hk2]; omega)
      simp only [Value.slice.injEq, Option.some.injEq, Addr.mk.injEq, and_true] at e
      obtain ⟨rfl, -, rfl⟩ := e
      have hLL : (fullTo xs k).length = 256 := fullTo_len (by omega) hk2
      have ck : wr.cell? ⟨g, k, none⟩ = some (.int .u8 ((fullTo xs k).getD k 0 : Nat)) := by
        rw [hb.cell, List.getElem?_append_left (by simp [u8s, hLL]; omega), u8s_get _ k (by omega)]
      have fk : wr.frozen? ⟨g, k, none⟩ = false := hb.free k
      obtain ⟨y, hy⟩ : ∃ y, y = (fullTo xs k).getD k 0 := ⟨_, rfl⟩
      rw [← hy] at ck
      have HNX : Hid ((fullTo xs k).set k z = fullTo xs (k + 1)) := by rw [hz]; exact fullTo_next hkx hk
      have HLL := Hid.mk' hLL
      have HNG : Hid (¬ b = g) := fun e => HNB.out (by omega) (by rw [e]; rfl)
      clear hO hG h1 h2 hcell hbl hz hge hb hR hc hm hLL hy h0 hkx hcap
      go_wp2
      refine ⟨⟨k + 1, by omega, by omega, by go_num, ?_, ?_, ?_⟩, by simp [intOf]; omega⟩
      · rw [← HNX.out]
        exact HO.out.setA HLL.out (by rw [HLL.out]; exact hk) HZ256.out
      · exact HV.out.but (But.set1 _ _ _ _) (fun j hj _ e => by
          have : b = j := by simpa [Value.ownBlock] using hj
          exact HNG.out (by rw [this]; exact e))
      · exact HG.out.then (But.set1 _ _ _ _) (fun i hi e => by have := HGE.out; omega)
    all_goals (
      first
        | (have h1 : ¬ ((k : Int) < (l : Int)) := by omega)
        | (have h1 : (k : Int) < (l : Int) := by omega
           have h2 : ¬ ((k : Int) < 256) := by omega)
      have HFA : Hid (fullTo xs k = fullOf xs) := fullTo_all (by have := HL.out; omega)
      rw [HFA.out] at HO
      clear hO hV hG
      go_wp2
      go_ret
      exact ⟨⟨g, rfl, by have := HGE.out; omega, HO.out⟩, HG.out⟩)
/-- Bytes of a block of its own, as a slice. -/
theorem Blk.bs {w : World} {g n : Nat} {t : TypeId} {D : List Nat} (h : Blk w g t (u8s D)) (hn : D.length = n) (h0 : 0 < n) (hb : ∀ z ∈ D, z < 256) (hl : n ≤ 100000) : Bs w (.slice (some ⟨g, 0, none⟩) n n) D := by
  refine ⟨hb, by omega, .inr ⟨by omega, g, 0, n, by rw [hn], by omega, h.lt, fun i hi => ?_⟩⟩
  rw [Nat.zero_add, h.cell, u8s_get D i hi]
/-- A block written, flushed, and written again. -/
def chain (st : List (List Nat)) (b : Nat) (A B : List Nat) : Dev := (((((Dev.of st).write b A).acc).acc.flushed).write b B).acc
section
variable {st : List (List Nat)} {b : Nat} {A B : List Nat}
theorem chain1_now (hb : b < st.length) : (((Dev.of st).write b A).acc).acc.flushed.st.getD b [] = A := by
  have e : (((Dev.of st).write b A).acc).acc.flushed.st = (List.range st.length).map (((Dev.of st).write b A).acc).acc.now := rfl
  have e2 : (((Dev.of st).write b A).acc).acc.now b = A := by
    unfold Dev.now
    have e3 : wb (((Dev.of st).write b A).acc).acc.wr (((Dev.of st).write b A).acc).acc.wt b = [0] := by
      show ([0] : List Nat).filter (fun i => (([(b, A)] : List WrE).getD i d0).1 == b) = [0]
      simp [List.getD]
    rw [e3]
    rfl
  rw [e]
  simp [List.getD, hb, e2]
theorem chain_on (hb : b < st.length) (fs : List Int) : (({ chain st b A B with arm := 0, up := false } : Dev).on fs).now b = layTo B A (spare fs 0) := by
  obtain ⟨F, hF⟩ : ∃ F, F = (((Dev.of st).write b A).acc).acc.flushed.st := ⟨_, rfl⟩
  have hFl : F.length = st.length := by rw [hF]; show ((List.range st.length).map _).length = _; simp
  have hFb : F.getD b [] = A := by rw [hF]; exact chain1_now hb
  rw [now_none (by rfl)]
  have e : (({ chain st b A B with arm := 0, up := false } : Dev).on fs).st = F.set b (layTo B (F.getD b []) (spare fs 0)) := by rw [hF]; rfl
  have hbF : b < F.length := by rw [hFl]; exact hb
  rw [e, hFb]
  simp [List.getD, hbF]
end
end Go.Proofs.Ytbdmlnmicijnjaa
