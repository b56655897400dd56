/- What the laws ask besides: awake. -/
import Derived.Test.YtmilmaljahjgeaaDoorShaOf
import Derived.Lib.SlBytesConst
namespace Go.Proofs.YtmilmaljahjgeaaDoor
open Go.RowKit

theorem digest_abc : digest [97, 98, 99] = [186, 120, 22, 191, 143, 1, 207, 234, 65, 65, 64, 222, 93, 174, 34, 35, 176, 3, 97, 163, 150, 23, 122, 156, 180, 16, 255, 97, 242, 0, 21, 173] := by decide +kernel
theorem digest_nil : digest [] = [227, 176, 196, 66, 152, 252, 28, 20, 154, 251, 244, 200, 153, 111, 185, 36, 39, 174, 65, 228, 100, 155, 147, 76, 164, 149, 153, 27, 120, 82, 184, 85] := by decide +kernel
theorem digest_len (xs : List Nat) : (digest xs).length = 32 := by simp [digest, outb]

/-- One slice as the only part. -/
theorem Ps.one {w : World} {v : Value} {xs : List Nat} (h : Bs w v xs) : Ps (w.alloc (.cells #[v] 22)) (.slice (some ⟨w.heap.size, 0, none⟩) 1 1) [xs] := by
  have k : But (fun _ => False) w (w.alloc (.cells #[v] 22)) := (But.refl _ w).alloc _
  refine .inr ⟨by simp, w.heap.size, 0, 1, rfl, by simp, fun i hi => ?_⟩
  have hi0 : i = 0 := by simp at hi; exact hi
  subst hi0
  refine ⟨v, ?_, h.but k (fun _ _ _ h => h)⟩
  have hb : Blk (w.alloc (.cells [v].toArray 22)) w.heap.size 22 [v] := Blk.new rfl
  exact hb.cell 0

/-- Two slices as the parts. -/
theorem Ps.two {w : World} {v u : Value} {xs ys : List Nat} (h : Bs w v xs) (k : Bs w u ys) : Ps (w.alloc (.cells #[v, u] 22)) (.slice (some ⟨w.heap.size, 0, none⟩) 2 2) [xs, ys] := by
  have q : But (fun _ => False) w (w.alloc (.cells #[v, u] 22)) := (But.refl _ w).alloc _
  have hb : Blk (w.alloc (.cells [v, u].toArray 22)) w.heap.size 22 [v, u] := Blk.new rfl
  refine .inr ⟨by simp, w.heap.size, 0, 2, rfl, by simp, fun i hi => ?_⟩
  match i, hi with
  | 0, _ => exact ⟨v, hb.cell 0, h.but q (fun _ _ _ h => h)⟩
  | 1, _ => exact ⟨u, hb.cell 1, k.but q (fun _ _ _ h => h)⟩

/-- A digest into a variable that is made for it. -/
theorem wpList_store_digest {w : World} {ops : Array Oper} {rest : List Oper} {o : Oper} {a : Act} {Q : Exit → Act → World → Prop} (hgd : o.guard = none) (x y : Operand) (ho : o.op = .store 25 x y)
    (g : Nat) (D : List Nat) (hD : D.length = 32) (hx : a.eval x = .pointer (some ⟨g, 0, none⟩)) (hy : a.eval y = .agg (u8s D).toArray) (L : List Value) (hL : L.length = 32) (hb : Blk w g 25 L)
    (h : ∀ w', Blk w' g 25 (u8s D) → But (· = g) w w' → wpList Tryd.prog ops Q rest (a.put o.dst undef) w') : wpList Tryd.prog ops Q (o :: rest) a w := by
  have hi25 : (Tryd.prog.info? 25).map (·.size) = some 32 := by kernel_rfl
  refine wpList_store_at hgd 25 x y ho g 0 (u8s D) hx hy 25 [] L [] (by simpa using hb) rfl (by simp [u8s, hD, hL]) (by rw [hi25]; simp [u8s, hD]) (u8s_one _) ?_
  intro w' hb' hb2
  exact h w' (by simpa using hb') hb2

set_option maxRecDepth 100000 in
set_option maxHeartbeats 4000000 in
theorem awake_any {w : World} (hk : Kw w) (hh : Hw w) :
    Calls Tryd.prog 8 #[] w fun e w' => e = .returned (.bool true) ∧ But (fun _ => False) w w' := by
  have hcv := Go.Lib.run_convert_bytes_const (P := Tryd.prog) w 22 5 #[.int .u8 97, .int .u8 98, .int .u8 99] 3 3 Tryd.underlying22 Tryd.underlying5
  have hz2 : ∀ w : World, (zeroValue 25).run Tryd.prog w = .ok (.agg (u8s (List.replicate 32 0)).toArray) w := fun _ => by kernel_rfl
  obtain ⟨O, hO⟩ : ∃ O, O = (u8s (List.replicate 32 0)).toArray := ⟨_, rfl⟩
  rw [← hO] at hz2
  have HO := Hid.mk' hO
  clear hO
  have b1 : But (fun _ => False) w (w.alloc (.cells #[.int .u8 97, .int .u8 98, .int .u8 99] 5 (3, 4))) := (But.refl _ w).alloc _
  have hbs : Bs (w.alloc (.cells #[.int .u8 97, .int .u8 98, .int .u8 99] 5 (3, 4))) (.slice (some ⟨w.heap.size, 0, none⟩) 3 3) [97, 98, 99] := by
    refine ⟨by decide, by decide, .inr ⟨by decide, w.heap.size, 0, 3, rfl, by decide, by simp, fun i hi => ?_⟩⟩
    rw [cell_of_row _ _ _ _ _ _ (heap_alloc_new _ _)]
    match i, hi with
    | 0, _ => rfl
    | 1, _ => rfl
    | 2, _ => rfl
  have hps := Ps.one hbs
  have b2 : But (fun _ => False) w ((w.alloc (.cells #[.int .u8 97, .int .u8 98, .int .u8 99] 5 (3, 4))).alloc (.cells #[.slice (some ⟨w.heap.size, 0, none⟩) 3 3] 22)) := b1.alloc _
  have hof := of_any hps (hk.but b2 (fun h => h)) (hh.but b2 (fun h => h)) (by decide) (by decide)
  rw [show (w.alloc (.cells #[.int .u8 97, .int .u8 98, .int .u8 99] 5 (3, 4))).heap.size = w.heap.size + 1 by simp, show [[97, 98, 99]].flatten = [97, 98, 99] from rfl] at hof
  have HOF := Hid.mk' hof
  have HB2 := Hid.mk' b2
  clear hof b1 b2 hbs hps hk hh
  obtain ⟨D, hD⟩ : ∃ D, D = digest [97, 98, 99] := ⟨_, rfl⟩
  rw [← hD] at HOF
  have HDL : Hid (D.length = 32) := by show _ = _; rw [hD]; exact digest_len _
  have HC4 : Hid (∀ (w5 : World) (g : Nat), Blk w5 g 25 (u8s D) → w5.cell? ⟨g, 0, none⟩ = some (.int .u8 186) ∧ w5.cell? ⟨g, 1, none⟩ = some (.int .u8 120) ∧ w5.cell? ⟨g, 2, none⟩ = some (.int .u8 22) ∧ w5.cell? ⟨g, 3, none⟩ = some (.int .u8 191)) := by
    intro w5 g h
    rw [h.cell, h.cell, h.cell, h.cell, hD, digest_abc]
    exact ⟨rfl, rfl, rfl, rfl⟩
  clear hD
  go_enter Tryd.func8, Tryd.ntmps8
  go_wp2_with (first
    | (go_at_call 10; refine Calls.mono HOF.out ?_; rintro e w3 ⟨rfl, hb3⟩)
    | (refine wpList_store_digest rfl _ _ rfl w3.heap.size D HDL.out rfl (by exact rfl) (u8s (List.replicate 32 0)) rfl (by rw [HO.out]; exact Blk.new rfl) ?_; intro w5 hb5 hbut5; obtain ⟨c0, c1, c2, c3⟩ := HC4.out w5 _ hb5))
  go_ret
  refine ⟨rfl, ?_⟩
  exact ((HB2.out.trans hb3).alloc _).then hbut5 (fun i hi e => by have := (HB2.out.trans hb3).size; omega)
end Go.Proofs.YtmilmaljahjgeaaDoor
