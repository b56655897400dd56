/- The program's set and generated. -/
import Derived.Test.YtdlalpklopnpjaaFieldBoxed
namespace Go.Proofs.Ytdlalpklopnpjaa
open Go.RowKit

theorem get_some {L : List Value} {i : Nat} (h : i < L.length) : ∃ v, L[i]? = some v := ⟨L[i], List.getElem?_eq_getElem h⟩
/-- The cells with what is told of the byte a, whose inverse is i. -/
def told (L : List Value) (a s : B8) : List Value := ((L.set (b8 a) (.int .u8 (b8 s))).set (256 + b8 s) (.int .u8 (b8 a))).set (512 + b8 a) (.int .u32 (col s : Nat))
theorem told_len (L : List Value) (a s : B8) : (told L a s).length = L.length := by simp [told]
set_option maxRecDepth 100000 in
set_option maxHeartbeats 4000000 in
theorem set_any {w : World} {g : Nat} {T : TypeId} {L : List Value} (hb : Blk w g T L) (hl : L.length = 768) (a i : B8) :
    Calls Try.prog 38 #[.pointer (some ⟨g, 0, none⟩), .int .u8 (b8 a), .int .u8 (b8 i)] w fun e w' => e = .returned (.tuple #[]) ∧ Blk w' g T (told L a (aff i)) ∧ But (· = g) w w' := by
  have ha := b8_lt a
  have hs := b8_lt (aff i)
  have HBX := Hid.mk' (boxed_any i w)
  have HC := Hid.mk' (fun w => column_any (aff i) w)
  obtain ⟨s, hS⟩ : ∃ s, s = aff i := ⟨_, rfl⟩
  rw [← hS] at HBX HC hs ⊢
  clear hS
  have f0 := hb.free (b8 a)
  have f1 := hb.free (256 + b8 s)
  obtain ⟨v0, e0⟩ := get_some (L := L) (i := b8 a) (by omega)
  obtain ⟨v1, e1⟩ := get_some (L := L) (i := 256 + b8 s) (by omega)
  have c0 : w.cell? ⟨g, b8 a, none⟩ = some v0 := by rw [hb.cell, e0]
  have c1 : w.cell? ⟨g, 256 + b8 s, none⟩ = some v1 := by rw [hb.cell, e1]
  have HB := Hid.mk' hb
  have HL := Hid.mk' hl
  clear hb e0 e1 hl
  go_enter Try.func38, Try.ntmps38
  go_wp2_with fail
  refine Calls.mono HBX.out ?_
  rintro e w1 ⟨rfl, hw⟩
  have hw' := hw.symm
  subst hw'
  go_wp2_with fail
  obtain ⟨W1, hW1⟩ : ∃ W1, W1 = (w.setCell ⟨g, b8 a, none⟩ (.int .u8 (b8 s))).setCell ⟨g, 256 + b8 s, none⟩ (.int .u8 (b8 a)) := ⟨_, rfl⟩
  rw [← hW1]
  have hb1 : Blk W1 g T ((L.set (b8 a) (.int .u8 (b8 s))).set (256 + b8 s) (.int .u8 (b8 a))) := by rw [hW1]; exact (HB.out.set _ _).set _ _
  have HBT : Hid (But (· = g) w W1) := by rw [hW1]; exact ((But.refl (· = g) w).setCell (fun _ => rfl) _).setCell (fun _ => rfl) _
  have f2 := hb1.free (512 + b8 a)
  obtain ⟨v2, e2⟩ := get_some (L := (L.set (b8 a) (.int .u8 (b8 s))).set (256 + b8 s) (.int .u8 (b8 a))) (i := 512 + b8 a) (by simp; have := HL.out; omega)
  have c2 : W1.cell? ⟨g, 512 + b8 a, none⟩ = some v2 := by rw [hb1.cell, e2]
  have HB1 := Hid.mk' hb1
  clear hb1 e2 hW1 f0 f1 c0 c1
  go_region_with (go_at_call 52; refine Calls.mono (HC.out _) ?_; rintro e w1 ⟨rfl, hw⟩; have hw' := hw.symm; subst hw')
  go_wp2
  go_end0
  refine ⟨rfl, ?_, ?_⟩
  · exact HB1.out.set _ _
  · exact (HBT.out.setCell (p := ⟨g, 512 + b8 a, none⟩) (fun _ => rfl) _).drew
end Go.Proofs.Ytdlalpklopnpjaa
