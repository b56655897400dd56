/- The program's putWord, New, Len. -/
import Derived.Test.YthpgjbblbhjndaaDoorShaMix
namespace Go.Proofs.YthpgjbblbhjndaaDoor
open Go.RowKit

/-- A word's four bytes, the highest first. -/
def by4 (x : BitVec 32) : List Nat := [nt x / 16777216 % 256, nt x / 65536 % 256, nt x / 256 % 256, nt x % 256]
set_option maxHeartbeats 1000000 in
theorem putWord_any {w : World} {g off n c : Nat} {T : TypeId} {A B : List Value} {v0 v1 v2 v3 : Value} {x : BitVec 32} (hb : Blk w g T (A ++ [v0, v1, v2, v3] ++ B)) (hA : A.length = off) (hn : 4 ≤ n) :
    Calls Tryd.prog 47 #[.slice (some ⟨g, off, none⟩) n c, .int .u32 (nt x)] w fun e w' => e = .returned (.tuple #[]) ∧ Blk w' g T (A ++ u8s (by4 x) ++ B) ∧ But (· = g) w w' := by
  have hx := nt_lt x
  have f0 := hb.free off
  have f1 := hb.free (off + 1)
  have f2 := hb.free (off + 2)
  have f3 := hb.free (off + 3)
  have c0 : w.cell? ⟨g, off, none⟩ = some v0 := by rw [hb.cell]; simp [← hA]
  have c1 : w.cell? ⟨g, off + 1, none⟩ = some v1 := by rw [hb.cell]; simp [← hA]
  have c2 : w.cell? ⟨g, off + 2, none⟩ = some v2 := by rw [hb.cell]; simp [← hA]
  have c3 : w.cell? ⟨g, off + 3, none⟩ = some v3 := by rw [hb.cell]; simp [← hA]
  have HB := Hid.mk' hb
  clear hb
  go_enter Tryd.func47, Tryd.ntmps47
  go_wp2
  go_end0
  refine ⟨rfl, ?_, ((((But.refl (· = g) w).setCell (p := ⟨g, off, none⟩) (fun _ => rfl) _).setCell (p := ⟨g, off + 1, none⟩) (fun _ => rfl) _).setCell (p := ⟨g, off + 2, none⟩) (fun _ => rfl) _).setCell (p := ⟨g, off + 3, none⟩) (fun _ => rfl) _⟩
  have h := (((HB.out.set off (.int .u8 ((nt x : Int) / 16777216))).set (off + 1) (.int .u8 ((nt x : Int) / 65536 % 256))).set (off + 2) (.int .u8 ((nt x : Int) / 256 % 256))).set (off + 3) (.int .u8 ((nt x : Int) % 256))
  have e0 : (nt x : Int) / 16777216 = ((nt x / 16777216 % 256 : Nat) : Int) := by omega
  have e1 : (nt x : Int) / 65536 % 256 = ((nt x / 65536 % 256 : Nat) : Int) := by omega
  have e2 : (nt x : Int) / 256 % 256 = ((nt x / 256 % 256 : Nat) : Int) := by omega
  have e3 : (nt x : Int) % 256 = ((nt x % 256 : Nat) : Int) := by omega
  have e : ((((A ++ [v0, v1, v2, v3] ++ B).set off (.int .u8 ((nt x : Int) / 16777216))).set (off + 1) (.int .u8 ((nt x : Int) / 65536 % 256))).set (off + 2) (.int .u8 ((nt x : Int) / 256 % 256))).set (off + 3) (.int .u8 ((nt x : Int) % 256)) = A ++ u8s (by4 x) ++ B := by
    rw [e0, e1, e2, e3, ← hA]
    simp [u8s, by4, List.append_assoc, List.set_append_right]
  rw [e] at h
  exact h

/-- A sum of no bytes, as memory has it. -/
def zero73 : List Value := u32s (List.replicate 8 0) ++ (u8s (List.replicate 64 0) ++ [.int .i64 0])
end Go.Proofs.YthpgjbblbhjndaaDoor
