/- The program's Box, Back, Mix. -/
import Derived.Test.YthifaandcgjekabFieldNew
namespace Go.Proofs.Ythifaandcgjekab
open Go.RowKit

theorem box_any {w : World} {g : Nat} (hb : Bxs w g) (a : B8) :
    Calls Try.prog 5 #[.pointer (some ⟨g, 0, none⟩), .int .u8 (b8 a)] w fun e w' => e = .returned (.int .u8 (b8 (bx a))) ∧ w' = w := by
  have hc := hb.box a
  have hf := hb.free (b8 a)
  have ha := b8_lt a
  clear hb
  go_enter Try.func5, Try.ntmps5
  go_wp2
  go_ret
  exact ⟨rfl, rfl⟩
end Go.Proofs.Ythifaandcgjekab
