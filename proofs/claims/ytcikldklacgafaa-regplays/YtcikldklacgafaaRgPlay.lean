/- RegPlays: what holds between acts. -/
import Derived.Test.YtcikldklacgafaaRgSteps
namespace Go.Proofs.Ytcikldklacgafaa
open Go.RowKit

structure PlI (F : Nat → Prop) (w wr : World) (gd gr g7 : Nat) (s : Dev) (S : Stt) (a : Int) (k : Nat) : Prop where
  rr : Rr F wr wr gd gr s S
  blk : Blk wr g7 26 (scells S)
  grow : Grow w wr
  sm : Dsm s k
  ar : a = if s.up then (s.arm : Int) else 0
theorem PlI.mk' {F G : Nat → Prop} {w wB wf : World} {gd gr g7 k : Nat} {s : Dev} {S : Stt} {a : Int} (h : Rr G wB wf gd gr s S) (hFG : ∀ b, F b → G b) (hF : ∀ b, b < w.heap.size → F b) (hg : Grow w wB) (hb : Blk wf g7 26 (scells S)) (hs : Dsm s k) (ha : a = if s.up then (s.arm : Int) else 0) : PlI F w wf gd gr g7 s S a k :=
  ⟨h.less hFG (fun b hb => Nat.lt_of_lt_of_le (h.fl b (hFG b hb)) h.but.size) (But.refl _ _), hb, hg.then h.but (fun b hb hn => hn (hFG b (hF b hb))), hs, ha⟩
theorem PlI.then {F : Nat → Prop} {w wf wz : World} {gd gr g7 k : Nat} {s : Dev} {S : Stt} {a : Int} (h : PlI F w wf gd gr g7 s S a k) (g : Grow wf wz) : PlI F w wz gd gr g7 s S a k :=
  ⟨(h.rr.then g).less (fun _ h => h) (fun b hb => Nat.lt_of_lt_of_le (h.rr.fl b hb) g.size) (But.refl _ _), h.blk.but g (fun h => h), h.grow.trans g, h.sm, h.ar⟩
theorem iRA : (Try.prog.info? 41).map (·.size) = some 74 := by kernel_rfl
def zRA : RA := ⟨0, 0, Stt.zero⟩
theorem zeroRA (w : World) : (zeroValue 41).run Try.prog w = .ok (.agg (racells zRA).toArray) w := by
  rw [show racells zRA = .int .i64 0 :: .int .i64 0 :: scells Stt.zero from rfl, zeroS]; kernel_rfl
theorem racells_len {a : RA} (h : a.S.ok) : (racells a).length = 74 := by
  show (scells a.S).length + 1 + 1 = 74
  rw [scells_len h]
theorem racells_one (a : RA) : ∀ u ∈ racells a, u.oneCell' = true := by
  intro u hu
  unfold racells at hu
  rcases List.mem_cons.1 hu with rfl | hu
  · rfl
  rcases List.mem_cons.1 hu with rfl | hu
  · rfl
  exact scells_one _ u hu
end Go.Proofs.Ytcikldklacgafaa
