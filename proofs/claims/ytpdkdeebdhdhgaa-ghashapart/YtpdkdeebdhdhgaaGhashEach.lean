/- ghash: the blocks of bytes, one by one. -/
import Derived.Test.YtpdkdeebdhdhgaaGhashTake
namespace Go.Proofs.Ytpdkdeebdhdhgaa
open Go.RowKit

theorem copy_blk {w : World} {g : Nat} {v : Value} {ys : List Nat} (ty : TypeId) (hb : Blk w g 22 (u8s (List.replicate 16 0))) (hv : Bs w v ys) (h0 : 0 < ys.length) :
    ∃ w', (Builtin.copy_ #[27, 27] ty #[.slice (some ⟨g, 0, none⟩) 16 16, v]).run Try.prog w = .ok (.int .i64 ((Nat.min ys.length 16 : Nat) : Int)) w' ∧ Blk w' g 22 (u8s (ys.take 16 ++ List.replicate (16 - ys.length) 0)) ∧ But (· = g) w w' := by
  obtain ⟨_, _, ⟨rfl, _⟩ | ⟨_, b, off, cap, rfl, _, _, hc⟩⟩ := hv
  · exact absurd h0 (by decide)
  · obtain ⟨n, hn⟩ : ∃ n, n = Nat.min ys.length 16 := ⟨_, rfl⟩
    have hn1 : n ≤ 16 := by rw [hn]; exact Nat.min_le_right _ _
    have hb' : Blk w g 22 ([] ++ u8s (List.replicate n 0) ++ u8s (List.replicate (16 - n) 0)) := by
      have e : [] ++ u8s (List.replicate n 0) ++ u8s (List.replicate (16 - n) 0) = u8s (List.replicate 16 0) := by
        have : List.replicate 16 0 = List.replicate n 0 ++ List.replicate (16 - n) 0 := by
          rw [List.replicate_append_replicate]; congr 1; omega
        rw [this]; simp [u8s]
      rw [e]; exact hb
    refine ⟨_, by rw [← hn]; exact run_copy_blk ty hb' rfl (by simp [u8s]) hn hc, ?_, (But.refl (· = g) w).setRow (fun _ => rfl) _⟩
    have h2 := hb'.row ([] ++ u8s (ys.take n) ++ u8s (List.replicate (16 - n) 0))
    have e : [] ++ u8s (ys.take n) ++ u8s (List.replicate (16 - n) 0) = u8s (ys.take 16 ++ List.replicate (16 - ys.length) 0) := by
      have e1 : 16 - n = 16 - ys.length := by rw [hn]; simp only [Nat.min_def]; split <;> omega
      have e2 : ys.take n = ys.take 16 := by
        rw [hn]
        simp only [Nat.min_def]
        split
        · rw [List.take_of_length_le (Nat.le_refl _), List.take_of_length_le (by omega)]
        · rfl
      rw [e1, e2]; simp [u8s]
    rw [e] at h2 ⊢
    exact h2
def lenV : Value → Nat
  | .slice _ n _ => n
  | _ => 0
/-- What memory is amid eachBlock. -/
structure EachI (w : World) (gk gc gy : Nat) (h : List B8) (y : G) (zs : List Nat) (k : Nat) (v : Value) (wr : World) : Prop where
  tk : Tk wr gk gc gy h (gF (toG h) y (padB zs) k)
  src : Bs wr v (zs.drop (16 * k))
  own : 0 < zs.length → ∀ j, v.ownBlock = some j → j ≠ gy
  but : But (· = gy) w wr
set_option maxRecDepth 100000 in
set_option maxHeartbeats 2000000 in
theorem each_any {w : World} {gk gc gy : Nat} {h : List B8} {y : G} {v : Value} {zs : List Nat} (ht : Tk w gk gc gy h y) (hv : Bs w v zs) (hl : zs.length ≤ 10000) (ho : 0 < zs.length → ∀ j, v.ownBlock = some j → j ≠ gy) :
    Calls Try.prog 28 #[v, .func (.func 26) #[] #[.pointer (some ⟨gc, 0, none⟩), .pointer (some ⟨gy, 0, none⟩)]] w fun e w' => e = .returned (.tuple #[]) ∧ Tk w' gk gc gy h (gF (toG h) y (padB zs) (nblk zs.length)) ∧ But (· = gy) w w' := by
  have hz := zeroG
  obtain ⟨Z, hZ⟩ : ∃ Z, Z = (u8s (List.replicate 16 0)).toArray := ⟨_, rfl⟩
  rw [← hZ] at hz
  have HZ := Hid.mk' hZ
  have HI0 : Hid (EachI w gk gc gy h y zs 0 v w) := ⟨ht, hv, ho, But.refl _ w⟩
  have HL := Hid.mk' hl
  have HZT := Hid.mk' hv.1
  have HGY := Hid.mk' ht.acc.lt
  clear hZ ht hv ho hl
  go_enter Try.func28, Try.ntmps28
  go_wp2
  go_loopw [0] (fun v wr => ∃ k : Nat, k ≤ nblk zs.length ∧ EachI w gk gc gy h y zs k v wr) (fun v _ => lenV v)
  case atStart => exact ⟨0, by omega, HI0.out⟩
  case round =>
    obtain ⟨k, hk, hI⟩ := hrel
    obtain ⟨ys, hys⟩ : ∃ ys, ys = zs.drop (16 * k) := ⟨_, rfl⟩
    have hBs := hI.src
    rw [← hys] at hBs
    obtain ⟨ao, cap, rfl, -, -⟩ := hBs.gen
    obtain ⟨L, hL⟩ : ∃ L, L = ys.length := ⟨_, rfl⟩
    rw [← hL] at hI hBs ⊢
    have hLL : L = zs.length - 16 * k := by rw [hL, hys, List.length_drop]
    have HI := Hid.mk' hI
    have HYS := Hid.mk' hys
    have HLY := Hid.mk' hL
    have HLL := Hid.mk' hLL
    have HK := Hid.mk' hk
    clear hI hys hL hLL hk HI0
    by_cases h0 : 0 < L
    · have h0i : (0 : Int) < (L : Int) := by omega
      obtain ⟨b, so, rfl, hcap⟩ : ∃ b so, ao = some ⟨b, so, none⟩ ∧ L ≤ cap := by
        obtain ⟨_, _, ⟨e, _⟩ | ⟨_, b, so, cap', e, hcap, _, _⟩⟩ := id hBs
        · have := HLY.out; rw [e] at this; exact absurd this (by simp; omega)
        · simp only [Value.slice.injEq] at e
          obtain ⟨rfl, e1, rfl⟩ := e
          exact ⟨b, so, rfl, by omega⟩
      obtain ⟨gb, hgb⟩ : ∃ gb, gb = wr.heap.size := ⟨_, rfl⟩
      obtain ⟨w1, hw1⟩ : ∃ w1, w1 = wr.alloc (.cells Z 22) := ⟨_, rfl⟩
      have al : But (fun _ => False) wr w1 := by rw [hw1]; exact (But.refl _ wr).alloc _
      have hB1 : Blk w1 gb 22 (u8s (List.replicate 16 0)) := by rw [hw1, HZ.out]; exact Blk.new hgb.symm
      obtain ⟨w2, hcopy, hblk, hb2⟩ := copy_blk 3 hB1 (hBs.but al (fun _ _ _ h => h)) (by rw [← HLY.out]; exact h0)
      obtain ⟨c, hc⟩ : ∃ c, c = Nat.min L 16 := ⟨_, rfl⟩
      rw [← HLY.out, ← hc] at hcopy
      have hcL : c ≤ L := by rw [hc]; exact Nat.min_le_left _ _
      have hc0 : 0 < c := by rw [hc]; simp only [Nat.min_def]; split <;> omega
      have hal2 : But (fun _ => False) wr w2 := al.then hb2 (fun j hj e => by omega)
      obtain ⟨p', hsl, hbs', hown', -⟩ := (hBs.but hal2 (fun _ _ _ h => h)).cut HLY.out.symm h0 hcL hcap
      have hkn : 16 * k < zs.length := by have := HLL.out; omega
      have hdrop : ys.drop c = zs.drop (16 * (k + 1)) := by
        rw [HYS.out, List.drop_drop]
        by_cases h16 : 16 ≤ L
        · rw [show c = 16 by rw [hc]; exact Nat.min_eq_right h16, show 16 * k + 16 = 16 * (k + 1) by omega]
        · have := HLL.out
          rw [show c = L by rw [hc]; exact Nat.min_eq_left (by omega), List.drop_of_length_le (by omega), List.drop_of_length_le (by omega)]
      rw [hdrop] at hbs'
      obtain ⟨B, hBB⟩ : ∃ B, B = blkAt (padB zs) k := ⟨_, rfl⟩
      rw [HYS.out, blk_bytes zs HZT.out k, ← hBB] at hblk
      have HBL : Hid (B.length = 16) := by show _ = _; rw [hBB, blkAt_len]
      have HBN : Hid ((nts B).length = 16) := by show _ = _; rw [nts_len]; exact HBL.out
      have HTK := Hid.mk' (take_any (HI.out.tk.then hal2) HBL.out)
      have HBK := Hid.mk' hblk
      have HBS := Hid.mk' hbs'
      have HOW : Hid (p'.ownBlock = some b ∧ b ≠ gy) := ⟨hown', HI.out.own (by omega) b rfl⟩
      have HBT := Hid.mk' (HI.out.but.then hal2 (fun _ _ h => h.elim))
      have HBB := Hid.mk' hBB
      have HKN := Hid.mk' hkn
      have HLC : Hid (lenV p' < L) := by
        obtain ⟨ao', cap', e, -, -⟩ := hbs'.gen
        rw [e]
        show (zs.drop (16 * (k + 1))).length < L
        have := HLL.out
        rw [List.length_drop]; omega
      rw [hw1] at hcopy
      have hs16 : ∀ w : World, (Instr.sliceAt 22 (.pointer (some ⟨wr.heap.size, 0, none⟩)) none none none).run Try.prog w = .ok (.slice (some ⟨wr.heap.size, 0, none⟩) 16 16) w := fun _ => by kernel_rfl
      rw [hgb] at hcopy HBK
      clear hBB hkn hdrop hbs' hown' hal2 hb2 hblk hB1 al hc hcL hw1 hcap hBs HI HYS HLY
      go_wp2_with (first
        | (refine wpList_load_u8s Try.underlying22 i16g rfl _ rfl wr.heap.size (nts B) HBN.out rfl HBK.out ?_)
        | fail)
      refine Calls.mono HTK.out ?_
      rintro e w3 ⟨rfl, ht3, hb3⟩
      have HT3 := Hid.mk' ht3
      have HB3 := Hid.mk' hb3
      clear ht3 hb3 HTK HBK hcopy
      go_wp2
      refine ⟨⟨k + 1, ?_, ?_⟩, HLC.out⟩
      · have := HKN.out; unfold nblk; omega
      · refine ⟨?_, HBS.out.but HB3.out (fun j hj _ => ?_), fun _ j hj => ?_, HBT.out.trans HB3.out⟩
        · have h := HT3.out
          rw [HBB.out] at h
          exact h
        · rw [HOW.out.1] at hj
          cases hj
          exact HOW.out.2
        · rw [HOW.out.1] at hj
          cases hj
          exact HOW.out.2
    · have hL0 : L = 0 := by omega
      subst hL0
      have hkn : k = nblk zs.length := by have := HLL.out; have := HK.out; unfold nblk at *; omega
      go_wp2
      go_end0
      rw [← hkn]
      exact ⟨rfl, HI.out.tk, HI.out.but⟩
end Go.Proofs.Ytpdkdeebdhdhgaa
