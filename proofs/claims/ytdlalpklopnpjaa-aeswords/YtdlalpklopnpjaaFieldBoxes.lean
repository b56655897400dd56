/- The program's Box, Back, Mix. -/
import Derived.Test.YtdlalpklopnpjaaFieldNew
namespace Go.Proofs.Ytdlalpklopnpjaa
open Go.RowKit

theorem box_any {w : World} {g : Nat} (hb : Bxs w g) (a : B8) :
    Calls Try.prog 49 #[.pointer (some ⟨g, 0, none⟩), .int .u8 (b8 a)] w fun e w' => e = .returned (.int .u8 (b8 (bx a))) ∧ w' = w := by
  have hc := hb.box a
  have hf := hb.free (b8 a)
  have ha := b8_lt a
  clear hb
  go_enter Try.func49, Try.ntmps49
  go_wp2
  go_ret
  exact ⟨rfl, rfl⟩
theorem back_any {w : World} {g : Nat} (hb : Bxs w g) (a : B8) :
    Calls Try.prog 50 #[.pointer (some ⟨g, 0, none⟩), .int .u8 (b8 a)] w fun e w' => e = .returned (.int .u8 (b8 (bk a))) ∧ w' = w := by
  have hc := hb.back a
  have hf := hb.free (256 + b8 a)
  have ha := b8_lt a
  clear hb
  go_enter Try.func50, Try.ntmps50
  go_wp2
  go_ret
  exact ⟨rfl, rfl⟩
theorem mix_any {w : World} {g : Nat} (hb : Bxs w g) (a : B8) :
    Calls Try.prog 48 #[.pointer (some ⟨g, 0, none⟩), .int .u8 (b8 a)] w fun e w' => e = .returned (.int .u32 (col (bx a) : Nat)) ∧ w' = w := by
  have hc := hb.mix a
  have hf := hb.free (512 + b8 a)
  have ha := b8_lt a
  clear hb
  go_enter Try.func48, Try.ntmps48
  go_wp2
  go_ret
  exact ⟨rfl, rfl⟩
theorem box_nil (a : Int) (w : World) :
    Calls Try.prog 49 #[.pointer none, .int .u8 a] w fun e w' => e = .returned (.int .u8 0) ∧ w' = w := by
  go_enter Try.func49, Try.ntmps49
  go_wp2
  go_ret
  exact ⟨rfl, rfl⟩
theorem back_nil (a : Int) (w : World) :
    Calls Try.prog 50 #[.pointer none, .int .u8 a] w fun e w' => e = .returned (.int .u8 0) ∧ w' = w := by
  go_enter Try.func50, Try.ntmps50
  go_wp2
  go_ret
  exact ⟨rfl, rfl⟩
theorem mix_nil (a : Int) (w : World) :
    Calls Try.prog 48 #[.pointer none, .int .u8 a] w fun e w' => e = .returned (.int .u32 0) ∧ w' = w := by
  go_enter Try.func48, Try.ntmps48
  go_wp2
  go_ret
  exact ⟨rfl, rfl⟩
end Go.Proofs.Ytdlalpklopnpjaa
