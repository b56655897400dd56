/- The program's putWord, New, Len. -/
import Derived.Test.YtmilmaljahjgeaaDoorShaMix
namespace Go.Proofs.YtmilmaljahjgeaaDoor
open Go.RowKit

/-- A word's four bytes, the highest first. -/
def by4 (x : BitVec 32) : List Nat := [nt x / 16777216 % 256, nt x / 65536 % 256, nt x / 256 % 256, nt x % 256]
/-- A block of these cells. -/
def Blk (w : World) (g : Nat) (T : TypeId) (L : List Value) : Prop := w.heap[g]? = some (.cells L.toArray T (0, 0))
theorem Blk.set {w : World} {g : Nat} {T : TypeId} {L : List Value} (h : Blk w g T L) (i : Nat) (v : Value) : Blk (w.setCell ⟨g, i, none⟩ v) g T (L.set i v) := by
  unfold Blk at h ⊢
  rw [heap_setCell_same w g i _ _ _ h]
  simp
theorem Blk.cell {w : World} {g : Nat} {T : TypeId} {L : List Value} (h : Blk w g T L) (i : Nat) : w.cell? ⟨g, i, none⟩ = L[i]? := by
  rw [cell_of_row w g i _ _ _ h]; simp
theorem Blk.free {w : World} {g : Nat} {T : TypeId} {L : List Value} (h : Blk w g T L) (i : Nat) : w.frozen? ⟨g, i, none⟩ = false := frozen_of_row w g i _ _ h
theorem Blk.but {R : Nat → Prop} {w w' : World} {g : Nat} {T : TypeId} {L : List Value} (h : Blk w g T L) (k : But R w w') (hr : ¬ R g) : Blk w' g T L := (k.block g (lt_of_block h) hr).trans h
theorem Blk.lt {w : World} {g : Nat} {T : TypeId} {L : List Value} (h : Blk w g T L) : g < w.heap.size := lt_of_block h

set_option maxHeartbeats 1000000 in
theorem putWord_any {w : World} {g off n c : Nat} {T : TypeId} {A B : List Value} {v0 v1 v2 v3 : Value} {x : BitVec 32} (hb : Blk w g T (A ++ [v0, v1, v2, v3] ++ B)) (hA : A.length = off) (hn : 4 ≤ n) :
    Calls Tryd.prog 24 #[.slice (some ⟨g, off, none⟩) n c, .int .u32 (nt x)] w fun e w' => e = .returned (.tuple #[]) ∧ Blk w' g T (A ++ u8s (by4 x) ++ B) ∧ But (· = g) w w' := by
  have hx := nt_lt x
  have f0 := hb.free off
  have f1 := hb.free (off + 1)
  have f2 := hb.free (off + 2)
  have f3 := hb.free (off + 3)
  have c0 : w.cell? ⟨g, off, none⟩ = some v0 := by rw [hb.cell]; simp [← hA]
  have c1 : w.cell? ⟨g, off + 1, none⟩ = some v1 := by rw [hb.cell]; simp [← hA]
  have c2 : w.cell? ⟨g, off + 2, none⟩ = some v2 := by rw [hb.cell]; simp [← hA]
  have c3 : w.cell? ⟨g, off + 3, none⟩ = some v3 := by rw [hb.cell]; simp [← hA]
  have HB := Hid.mk' hb
  clear hb
  go_enter Tryd.func24, Tryd.ntmps24
  go_wp2
  go_end0
  refine ⟨rfl, ?_, ((((But.refl (· = g) w).setCell (p := ⟨g, off, none⟩) (fun _ => rfl) _).setCell (p := ⟨g, off + 1, none⟩) (fun _ => rfl) _).setCell (p := ⟨g, off + 2, none⟩) (fun _ => rfl) _).setCell (p := ⟨g, off + 3, none⟩) (fun _ => rfl) _⟩
  have h := (((HB.out.set off (.int .u8 ((nt x : Int) / 16777216))).set (off + 1) (.int .u8 ((nt x : Int) / 65536 % 256))).set (off + 2) (.int .u8 ((nt x : Int) / 256 % 256))).set (off + 3) (.int .u8 ((nt x : Int) % 256))
  have e0 : (nt x : Int) / 16777216 = ((nt x / 16777216 % 256 : Nat) : Int) := by omega
  have e1 : (nt x : Int) / 65536 % 256 = ((nt x / 65536 % 256 : Nat) : Int) := by omega
  have e2 : (nt x : Int) / 256 % 256 = ((nt x / 256 % 256 : Nat) : Int) := by omega
  have e3 : (nt x : Int) % 256 = ((nt x % 256 : Nat) : Int) := by omega
  have e : ((((A ++ [v0, v1, v2, v3] ++ B).set off (.int .u8 ((nt x : Int) / 16777216))).set (off + 1) (.int .u8 ((nt x : Int) / 65536 % 256))).set (off + 2) (.int .u8 ((nt x : Int) / 256 % 256))).set (off + 3) (.int .u8 ((nt x : Int) % 256)) = A ++ u8s (by4 x) ++ B := by
    rw [e0, e1, e2, e3, ← hA]
    simp [u8s, by4, List.append_assoc, List.set_append_right]
  rw [e] at h
  exact h

theorem len_any {w : World} {g n : Nat} (hc : w.cell? ⟨g, 72, none⟩ = some (.int .i64 (n : Int))) :
    Calls Tryd.prog 18 #[.pointer (some ⟨g, 0, none⟩)] w fun e w' => e = .returned (.int .i64 (n : Int)) ∧ w' = w := by
  go_enter Tryd.func18, Tryd.ntmps18
  go_wp2
  go_ret
  exact ⟨rfl, rfl⟩
theorem len_nil {w : World} :
    Calls Tryd.prog 18 #[.pointer none] w fun e w' => e = .returned (.int .i64 0) ∧ w' = w := by
  go_enter Tryd.func18, Tryd.ntmps18
  go_wp2
  go_ret
  exact ⟨rfl, rfl⟩
/-- A sum of no bytes, as memory has it. -/
def zero73 : List Value := u32s (List.replicate 8 0) ++ (u8s (List.replicate 64 0) ++ [.int .i64 0])
set_option maxRecDepth 100000 in
theorem new_any {w : World} :
    Calls Tryd.prog 15 #[] w fun e w' => e = .returned (.pointer (some ⟨w.heap.size, 0, none⟩)) ∧ Blk w' w.heap.size 46 zero73 ∧ But (fun _ => False) w w' := by
  have hz : ∀ w : World, (zeroValue 46).run Tryd.prog w = .ok (.agg zero73.toArray) w := fun _ => by kernel_rfl
  obtain ⟨Z, hZ⟩ : ∃ Z, Z = zero73 := ⟨_, rfl⟩
  rw [← hZ] at hz ⊢
  clear hZ
  go_enter Tryd.func15, Tryd.ntmps15
  go_wp2
  go_ret
  exact ⟨rfl, heap_alloc_new _ _, (But.refl _ w).alloc _⟩
end Go.Proofs.YtmilmaljahjgeaaDoor
