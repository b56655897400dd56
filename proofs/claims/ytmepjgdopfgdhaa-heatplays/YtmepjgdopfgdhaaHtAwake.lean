/- The law's awake: the document's example. -/
import Derived.Test.YtmepjgdopfgdhaaHtRefCold
import Derived.Test.YtmepjgdopfgdhaaPickAny
namespace Go.Proofs.Ytmepjgdopfgdhaa
open Go.RowKit

def aw1 : Tb := ttouch 2 0 tnone 1 4620693217682128896
def aw2 : Tb := ttouch 2 1 aw1 2 4607182418800017408
def aw3 : Tb := ttouch 2 2 aw2 2 4607182418800017408
theorem aw_one : hof 2 3 aw3 1 = 4616189618054758400 := by decide +kernel
theorem aw_two : hof 2 3 aw3 2 = 4611686018427387904 := by decide +kernel
theorem aw_cold : coldest (hof 2 3 aw3) [1, 2, 3] = 3 := by decide +kernel
theorem feq (b : Nat) (hb : b < 18446744073709551616) (hn : nn b = false) : (FloatKind.f64.format.order b b == some Ordering.eq) = true := by
  have h := ne_self b hb
  rw [hn] at h
  simpa using h
theorem infN : (Try.prog.info? 3).map (fun i => (i.zero, i.size, i.bytes)) = some (some (.int .i64 0), 1, 8) := by kernel_rfl
theorem keys3 (w : World) : Nums (w.alloc (.cells #[.int .i64 1, .int .i64 2, .int .i64 3] 3)) (.slice (some ⟨w.heap.size, 0, none⟩) 3 3) [1, 2, 3] := by
  have hb : Blk (w.alloc (.cells #[.int .i64 1, .int .i64 2, .int .i64 3] 3)) w.heap.size 3 [.int .i64 1, .int .i64 2, .int .i64 3] := Blk.new (L := [.int .i64 1, .int .i64 2, .int .i64 3]) rfl
  refine ⟨?_, by decide, .inr ⟨by decide, w.heap.size, 0, 3, rfl, Nat.le_refl _, hb.lt, fun i hi => ?_⟩⟩
  · intro x hx
    rcases List.mem_cons.1 hx with rfl | hx
    · omega
    rcases List.mem_cons.1 hx with rfl | hx
    · omega
    rcases List.mem_cons.1 hx with rfl | hx
    · omega
    · cases hx
  · rw [Nat.zero_add, hb.cell]
    match i, hi with
    | 0, _ => rfl
    | 1, _ => rfl
    | 2, _ => rfl
    | (i + 3), h => simp at h; omega
set_option maxRecDepth 100000 in
set_option maxHeartbeats 1000000 in
theorem awake_any (w : World) : Calls Try.prog 10 #[] w fun e w' => e = .returned (.bool true) ∧ Grow w w' := by
  have o1 := feq 4616189618054758400 (by decide) (by decide)
  have o2 := feq 4611686018427387904 (by decide) (by decide)
  obtain ⟨g, hg⟩ : ∃ g, g = w.heap.size := ⟨_, rfl⟩
  have HNW := Hid.mk' (new_any w 2 (by decide) (by decide))
  rw [← hg] at HNW
  have HGE := Hid.mk' hg
  clear hg
  go_enter Try.func10, Try.ntmps10
  go_wp2_with fail
  refine Calls.mono HNW.out ?_
  rintro e w1 ⟨rfl, h1, g1⟩
  have HT1 := Hid.mk' (touch_any h1 (K := 1) (y := 4620693217682128896) (by unfold i64; omega) (by decide))
  have HG1 := Hid.mk' g1
  clear h1 g1
  go_wp2_with fail
  refine Calls.mono HT1.out ?_
  rintro e w2 ⟨rfl, h2, b2⟩
  have HT2 := Hid.mk' (touch_any h2 (K := 2) (y := 4607182418800017408) (by unfold i64; omega) (by decide))
  have HG2 : Hid (Grow w w2) := HG1.out.then b2 (fun i hi e => by have := HGE.out; omega)
  clear h2 b2
  go_wp2_with fail
  refine Calls.mono HT2.out ?_
  rintro e w3 ⟨rfl, h3, b3⟩
  have HT3 := Hid.mk' (touch_any h3 (K := 2) (y := 4607182418800017408) (by unfold i64; omega) (by decide))
  have HG3 : Hid (Grow w w3) := HG2.out.then b3 (fun i hi e => by have := HGE.out; omega)
  clear h3 b3
  go_wp2_with fail
  refine Calls.mono HT3.out ?_
  rintro e w4 ⟨rfl, h4, b4⟩
  have HG4 : Hid (Grow w w4) := HG3.out.then b4 (fun i hi e => by have := HGE.out; omega)
  have HG5 : Hid (Grow w4 (w4.alloc (.cells #[.int .i64 1, .int .i64 2, .int .i64 3] 3))) := (But.refl _ w4).alloc _
  have HH5 : Hid (HtM (w4.alloc (.cells #[.int .i64 1, .int .i64 2, .int .i64 3] 3)) (g + 1) g 2 3 aw3) := h4.grow HG5.out
  have HC := Hid.mk' (coldest_some (ofs_any HH5.out) (keys3 w4) (by decide))
  rw [aw_cold] at HC
  clear h4 b4
  go_wp2_with fail
  refine Calls.mono HC.out ?_
  rintro e w6 ⟨rfl, g6⟩
  have HG6 := Hid.mk' ((HG4.out.trans HG5.out).trans g6)
  have HH6 := Hid.mk' (HH5.out.grow g6)
  have HO1 := Hid.mk' (of_any HH6.out (K := 1) (by unfold i64; omega))
  rw [aw_one] at HO1
  clear g6
  go_wp2_with fail
  refine Calls.mono HO1.out ?_
  rintro e w7 ⟨rfl, g7⟩
  have HG7 := Hid.mk' (HG6.out.trans g7)
  have HO2 := Hid.mk' (of_any (HH6.out.grow g7) (K := 2) (by unfold i64; omega))
  rw [aw_two] at HO2
  clear g7
  go_wp2_with fail
  refine Calls.mono HO2.out ?_
  rintro e w8 ⟨rfl, g8⟩
  have HG8 := Hid.mk' (HG7.out.trans g8)
  clear g8
  go_wp2
  go_ret
  exact ⟨rfl, HG8.out⟩
end Go.Proofs.Ytmepjgdopfgdhaa
