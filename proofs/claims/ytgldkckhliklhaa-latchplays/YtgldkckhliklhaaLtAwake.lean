/- The document's example of latches. -/
import Derived.Test.YtgldkckhliklhaaLtLaw
namespace Go.Proofs.Ytgldkckhliklhaa
open Go.RowKit Go.Maps

theorem num1 (w : World) (x : Int) (hx : i64 x) : Nums (w.alloc (.cells #[.int .i64 x] 3)) (.slice (some ⟨w.heap.size, 0, none⟩) 1 1) [x] := by
  refine ⟨by simpa [i64] using hx, by simp, .inr ⟨by simp, w.heap.size, 0, 1, rfl, by simp, by simp, fun i hi => ?_⟩⟩
  obtain rfl : i = 0 := by simpa using hi
  have hb : Blk (w.alloc (.cells #[.int .i64 x] 3)) w.heap.size 3 [.int .i64 x] := Blk.new (L := [.int .i64 x]) rfl
  rw [Nat.add_zero, hb.cell]; rfl
/-- Where all wait for one key. -/
theorem fre_one {s s' : Ls} {t k : Int} {G : List Wt} (h : Fre s t G s') (hk : ∀ y ∈ s.q, y.2.1 = k) : G = gr (wo t s.q) (wo t s.has) := by
  have h1 := h.gr k
  rw [List.filter_eq_self.2 (fun y hy => by simpa using hk y (h.sub y hy).1), List.filter_eq_self.2 (fun y hy => by simpa using hk y (wo_mem.1 hy).1)] at h1
  exact h1
theorem srt_one (x : Int) : srt [x] = [x] := List.perm_singleton.1 (srt_perm [x])
def aw1 : Ls := Ls.new.asked (1, 7, false)
def aw2 : Ls := aw1.asked (2, 7, true)
def aw3 : Ls := aw2.asked (3, 7, false)
theorem aw_tells : Ls.new.got (1, 7, false) = true ∧ Ls.new.askc (1, 7, false) = 0 ∧ aw1.got (2, 7, true) = false ∧ aw1.askc (2, 7, true) = 0 ∧ aw2.got (3, 7, false) = false ∧ aw2.askc (3, 7, false) = 0 := by decide +kernel
theorem aw_len : Ls.new.has.length + Ls.new.q.length < 10000 ∧ aw1.has.length + aw1.q.length < 10000 ∧ aw2.has.length + aw2.q.length < 10000 ∧ aw3.has.length + aw3.q.length ≤ 10000 := by decide +kernel
theorem aw_free {s : Ls} {G : List Wt} (h : Fre aw3 1 G s) : srt (G.map (·.1)) = [2] ∧ s.hold 2 7 = 2 := by
  have h1 := fre_one h (k := 7) (by decide +kernel)
  have h2 : gr (wo 1 aw3.q) (wo 1 aw3.has) = [(2, 7, true)] := by decide +kernel
  rw [h2] at h1
  subst h1
  refine ⟨srt_one 2, ?_⟩
  have h3 := h.has
  have h4 : wo 1 aw3.has = [] := by decide +kernel
  rw [h4] at h3
  unfold Ls.hold
  rw [h3]
  decide +kernel
set_option maxRecDepth 100000 in
set_option maxHeartbeats 1000000 in
theorem awake_any (w : World) : Calls Try.prog 20 #[] w fun e w' => e = .returned (.bool true) ∧ Grow w w' := by
  have HN := Hid.mk' (ll_new w)
  obtain ⟨e1, e2, e3, e4, e5, e6⟩ := aw_tells
  obtain ⟨l1, l2, l3, l4⟩ := aw_len
  go_enter Try.func20, Try.ntmps20
  go_wp2_with fail
  refine Calls.mono HN.out ?_
  rintro e w1 ⟨gt, rfl, h1⟩
  have hp1 := ll_ask (t := 1) (k := 7) (a := false) h1 (by unfold i64; omega) (by unfold i64; omega) l1
  rw [e1, e2] at hp1
  have HP1 := Hid.mk' hp1
  clear hp1 h1 e1 e2 l1
  go_wp2_with fail
  refine Calls.mono HP1.out ?_
  rintro e w2 ⟨rfl, h2, -⟩
  have hp2 := ll_ask (t := 2) (k := 7) (a := true) h2 (by unfold i64; omega) (by unfold i64; omega) l2
  rw [show (Ls.new.asked (1, 7, false)) = aw1 from rfl, e3, e4] at hp2
  have HP2 := Hid.mk' hp2
  clear hp2 h2 e3 e4 l2
  go_wp2_with fail
  refine Calls.mono HP2.out ?_
  rintro e w3 ⟨rfl, h3, -⟩
  have hp3 := ll_ask (t := 3) (k := 7) (a := false) h3 (by unfold i64; omega) (by unfold i64; omega) l3
  rw [show (aw1.asked (2, 7, true)) = aw2 from rfl, e5, e6] at hp3
  have HP3 := Hid.mk' hp3
  clear hp3 h3 e5 e6 l3
  go_wp2_with fail
  refine Calls.mono HP3.out ?_
  rintro e w4 ⟨rfl, h4, -⟩
  have HF := Hid.mk' (ll_free (t := 1) h4 (by unfold i64; omega) l4)
  clear h4 l4
  go_wp2_with fail
  refine Calls.mono HF.out ?_
  rintro e w5 ⟨v, G, s, rfl, hf, hn, h5, -, -⟩
  obtain ⟨f1, f2⟩ := aw_free hf
  rw [f1] at hn
  have HA : Hid (Grow w5 (w5.alloc (.cells #[.int .i64 2] 3))) := (But.refl _ w5).alloc _
  have HS := Hid.mk' (sameints_any (hn.grow HA.out) (num1 w5 2 (by unfold i64; omega)))
  have H5 := Hid.mk' h5
  clear hf hn h5 f1 HF HP1 HP2 HP3 HN
  go_wp2_with fail
  refine Calls.mono HS.out ?_
  rintro e w6 ⟨rfl, h6⟩
  have h7 := (H5.out.then HA.out).then h6
  have hh := ll_holds (t := 2) (k := 7) h7 (by unfold i64; omega) (by unfold i64; omega)
  rw [f2] at hh
  have HH := Hid.mk' hh
  have H7 := Hid.mk' h7.grow
  clear hh h7 h6 HS H5 HA f2
  go_wp2_with fail
  refine Calls.mono HH.out ?_
  rintro e w7 ⟨rfl, rfl⟩
  go_wp2
  go_ret
  exact ⟨rfl, H7.out⟩
end Go.Proofs.Ytgldkckhliklhaa
