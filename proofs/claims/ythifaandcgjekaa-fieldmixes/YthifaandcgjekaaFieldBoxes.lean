/- The program's Box, Back, Mix. -/
import Derived.Test.YthifaandcgjekaaFieldNew
namespace Go.Proofs.Ythifaandcgjekaa
open Go.RowKit

theorem box_any {w : World} {g : Nat} (hb : Bxs w g) (a : B8) :
    Calls Try.prog 16 #[.pointer (some ⟨g, 0, none⟩), .int .u8 (b8 a)] w fun e w' => e = .returned (.int .u8 (b8 (bx a))) ∧ w' = w := by
  have hc := hb.box a
  have hf := hb.free (b8 a)
  have ha := b8_lt a
  clear hb
  go_enter Try.func16, Try.ntmps16
  go_wp2
  go_ret
  exact ⟨rfl, rfl⟩
theorem back_any {w : World} {g : Nat} (hb : Bxs w g) (a : B8) :
    Calls Try.prog 18 #[.pointer (some ⟨g, 0, none⟩), .int .u8 (b8 a)] w fun e w' => e = .returned (.int .u8 (b8 (bk a))) ∧ w' = w := by
  have hc := hb.back a
  have hf := hb.free (256 + b8 a)
  have ha := b8_lt a
  clear hb
  go_enter Try.func18, Try.ntmps18
  go_wp2
  go_ret
  exact ⟨rfl, rfl⟩
theorem mix_any {w : World} {g : Nat} (hb : Bxs w g) (a : B8) :
    Calls Try.prog 20 #[.pointer (some ⟨g, 0, none⟩), .int .u8 (b8 a)] w fun e w' => e = .returned (.int .u32 (col (bx a) : Nat)) ∧ w' = w := by
  have hc := hb.mix a
  have hf := hb.free (512 + b8 a)
  have ha := b8_lt a
  clear hb
  go_enter Try.func20, Try.ntmps20
  go_wp2
  go_ret
  exact ⟨rfl, rfl⟩
theorem box_nil (a : Int) (w : World) :
    Calls Try.prog 16 #[.pointer none, .int .u8 a] w fun e w' => e = .returned (.int .u8 0) ∧ w' = w := by
  go_enter Try.func16, Try.ntmps16
  go_wp2
  go_ret
  exact ⟨rfl, rfl⟩
theorem back_nil (a : Int) (w : World) :
    Calls Try.prog 18 #[.pointer none, .int .u8 a] w fun e w' => e = .returned (.int .u8 0) ∧ w' = w := by
  go_enter Try.func18, Try.ntmps18
  go_wp2
  go_ret
  exact ⟨rfl, rfl⟩
theorem mix_nil (a : Int) (w : World) :
    Calls Try.prog 20 #[.pointer none, .int .u8 a] w fun e w' => e = .returned (.int .u32 0) ∧ w' = w := by
  go_enter Try.func20, Try.ntmps20
  go_wp2
  go_ret
  exact ⟨rfl, rfl⟩
end Go.Proofs.Ythifaandcgjekaa
