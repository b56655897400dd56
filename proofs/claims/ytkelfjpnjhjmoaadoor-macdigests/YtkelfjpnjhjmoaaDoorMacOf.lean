/- The program's Of. -/
import Derived.Test.YtkelfjpnjhjmoaaDoorMacParts
import Derived.Test.YtkelfjpnjhjmoaaDoorDraws
namespace Go.Proofs.YtkelfjpnjhjmoaaDoor
open Go.RowKit

/-- What the two variables of the second statement hold, by what of it has been done. -/
structure Two (w3 w : World) (g5 g6 g7 : Nat) (B I X : List Nat) (l4 l5 l6 l7 : Bool) : Prop where
  but : But (fun _ => False) w3 w
  b5 : Blk w g5 40 (u8s B)
  lt5 : g5 < w3.heap.size
  b6 : l4 = true → w3.heap.size ≤ g6 ∧ Blk w g6 40 (if l6 = true then u8s I else u8s (List.replicate 64 0))
  b7 : l5 = true → w3.heap.size ≤ g7 ∧ Blk w g7 40 (if l7 = true then u8s X else u8s (List.replicate 64 0))
  ne : l4 = true → l5 = true → g6 ≠ g7
  i6 : l6 = true → l4 = true
  i7 : l7 = true → l5 = true
theorem Two.grow {w3 w w' : World} {g5 g6 g7 : Nat} {B I X : List Nat} {l4 l5 l6 l7 : Bool} (h : Two w3 w g5 g6 g7 B I X l4 l5 l6 l7) (k : But (fun _ => False) w w') : Two w3 w' g5 g6 g7 B I X l4 l5 l6 l7 :=
  ⟨h.but.trans k, h.b5.but k (fun h => h), h.lt5, fun e => ⟨(h.b6 e).1, (h.b6 e).2.but k (fun h => h)⟩, fun e => ⟨(h.b7 e).1, (h.b7 e).2.but k (fun h => h)⟩, h.ne, h.i6, h.i7⟩
theorem Two.new6 {w3 w : World} {g5 g6 g7 : Nat} {B I X : List Nat} {l4 l5 l7 : Bool} {Z : Array Value} (h : Two w3 w g5 g6 g7 B I X l4 l5 false l7) (hZ : Z = (u8s (List.replicate 64 0)).toArray) :
    Two w3 (w.alloc (.cells Z 40)) g5 w.heap.size g7 B I X true l5 false l7 := by
  have k : But (fun _ => False) w (w.alloc (.cells Z 40)) := (But.refl _ w).alloc _
  refine ⟨h.but.trans k, h.b5.but k (fun h => h), h.lt5, fun _ => ⟨h.but.size, ?_⟩, fun e => ⟨(h.b7 e).1, (h.b7 e).2.but k (fun h => h)⟩, fun _ e => ?_, fun _ => rfl, h.i7⟩
  · rw [hZ]; exact Blk.new rfl
  · have := (h.b7 e).2.lt; omega
theorem Two.new7 {w3 w : World} {g5 g6 g7 : Nat} {B I X : List Nat} {l4 l5 l6 : Bool} {Z : Array Value} (h : Two w3 w g5 g6 g7 B I X l4 l5 l6 false) (hZ : Z = (u8s (List.replicate 64 0)).toArray) :
    Two w3 (w.alloc (.cells Z 40)) g5 g6 w.heap.size B I X l4 true l6 false := by
  have k : But (fun _ => False) w (w.alloc (.cells Z 40)) := (But.refl _ w).alloc _
  refine ⟨h.but.trans k, h.b5.but k (fun h => h), h.lt5, fun e => ⟨(h.b6 e).1, (h.b6 e).2.but k (fun h => h)⟩, fun _ => ⟨h.but.size, ?_⟩, fun e _ => ?_, h.i6, fun _ => rfl⟩
  · rw [hZ]; exact Blk.new rfl
  · have := (h.b6 e).2.lt; omega
theorem Two.put6 {w3 w w' : World} {g5 g6 g7 : Nat} {B I X : List Nat} {l5 l6 l7 : Bool} (h : Two w3 w g5 g6 g7 B I X true l5 l6 l7) (hb : Blk w' g6 40 (u8s I)) (k : But (· = g6) w w') : Two w3 w' g5 g6 g7 B I X true l5 true l7 := by
  have h6 := (h.b6 rfl).1
  have h5 := h.lt5
  refine ⟨h.but.then k (fun i hi e => by omega), h.b5.but k (by omega), h.lt5, fun _ => ⟨h6, by simpa using hb⟩, fun e => ⟨(h.b7 e).1, (h.b7 e).2.but k (fun e' => h.ne rfl e e'.symm)⟩, h.ne, fun _ => rfl, h.i7⟩
theorem Two.put7 {w3 w w' : World} {g5 g6 g7 : Nat} {B I X : List Nat} {l4 l6 l7 : Bool} (h : Two w3 w g5 g6 g7 B I X l4 true l6 l7) (hb : Blk w' g7 40 (u8s X)) (k : But (· = g7) w w') : Two w3 w' g5 g6 g7 B I X l4 true l6 true := by
  have h7 := (h.b7 rfl).1
  have h5 := h.lt5
  refine ⟨h.but.then k (fun i hi e => by omega), h.b5.but k (by omega), h.lt5, fun e => ⟨(h.b6 e).1, (h.b6 e).2.but k (fun e' => h.ne e rfl e')⟩, fun _ => ⟨h7, by simpa using hb⟩, h.ne, h.i6, fun _ => rfl⟩

theorem callable23 (args : Array Value) (w : World) : (callFunc 23 args).run Tryd.prog w = .ok (.enter 23 args) w := by kernel_rfl
theorem callable17 (args : Array Value) (w : World) : (callFunc 17 args).run Tryd.prog w = .ok (.enter 17 args) w := by kernel_rfl

/-- A whole array of bytes into a variable, as one operation. -/
theorem op_store_u8s {T : TypeId} {n : Nat} (hi : (Tryd.prog.info? T).map (·.size) = some n) {w : World} {o : Oper} {a : Act} {K : Act → World → Prop} {Q : Exit → Act → World → Prop} (x y : Operand) (ho : o.op = .store T x y)
    (g : Nat) (D : List Nat) (hD : D.length = n) (hx : a.eval x = .pointer (some ⟨g, 0, none⟩)) (hy : a.eval y = .agg (u8s D).toArray) (L : List Value) (hL : L.length = n) (hb : Blk w g T L)
    (h : ∀ w', Blk w' g T (u8s D) → But (· = g) w w' → K (a.put o.dst undef) w') : o.wp Tryd.prog a w K Q := by
  obtain ⟨w', hr, hbl, hbt⟩ := run_storeVar_at w g 0 T T [] L [] (u8s D) (by simpa using hb) rfl (by simp [u8s, hD, hL]) (by rw [hi]; simp [u8s, hD]) (u8s_one _)
  unfold Oper.wp execOp
  simp only [ho, hx, hy, Instr.storeAt, Instr.sureAddr, Sem.run_bind, Sem.run_pure, Result.andThen_ok, hr]
  exact h w' (by simpa using hbl) hbt
/-- A whole array of bytes out of a variable, as one operation. -/
theorem op_load_u8s {T : TypeId} {n l : Nat} {e : TypeId} (hu : Tryd.prog.underlying T = some (.array l e)) (hi : (Tryd.prog.info? T).map (·.size) = some n)
    {w : World} {o : Oper} {a : Act} {K : Act → World → Prop} {Q : Exit → Act → World → Prop} (x : Operand) (ho : o.op = .load T x)
    (g : Nat) (D : List Nat) (hD : D.length = n) (hx : a.eval x = .pointer (some ⟨g, 0, none⟩)) (hb : Blk w g T (u8s D))
    (h : K (a.put o.dst (.agg (u8s D).toArray)) w) : o.wp Tryd.prog a w K Q :=
  wp_load_row T x ho g hx T _ (0, 0) _ hb hu rfl (by rw [hi]; simp [u8s, hD]) h

theorem Ps.two' {w : World} {v u : Value} {xs ys : List Nat} (h : Bs w v xs) (k : Bs w u ys) : Ps (w.alloc (.cells #[v, u] 22)) (.slice (some ⟨w.heap.size, 0, none⟩) 2 2) [xs, ys] := by
  have q : But (fun _ => False) w (w.alloc (.cells #[v, u] 22)) := (But.refl _ w).alloc _
  have hb : Blk (w.alloc (.cells [v, u].toArray 22)) w.heap.size 22 [v, u] := Blk.new rfl
  refine .inr ⟨by simp, w.heap.size, 0, 2, rfl, by simp, fun i hi => ?_⟩
  match i, hi with
  | 0, _ => exact ⟨v, hb.cell 0, h.but q (fun _ _ _ h => h)⟩
  | 1, _ => exact ⟨u, hb.cell 1, k.but q (fun _ _ _ h => h)⟩
/-- append, by what it was seen to give. -/
theorem wpList_append_run {w w' : World} {ops : Array Oper} {rest : List Oper} {o : Oper} {a : Act} {Q : Exit → Act → World → Prop} (hgd : o.guard = none) (s x : Operand) (t : TypeId)
    (ho : o.op = .call { callee := .builtin .append, args := #[s, x], argTypes := #[t, t] }) (vs vx : Value) (hs : a.eval s = vs) (hx : a.eval x = vx) {v' : Value}
    (hr : (Builtin.append_ #[t, t] o.type #[vs, vx]).run Tryd.prog w = .ok v' w')
    (h : wpList Tryd.prog ops Q rest (a.put o.dst v') w') : wpList Tryd.prog ops Q (o :: rest) a w :=
  wpList_plain hgd fun _ hK => by
    unfold Oper.wp execOp
    simp only [ho, resolve, invoke, builtin, Sem.run_bind, Sem.run_pure, Result.andThen_ok, List.map_toArray, List.map_cons, List.map_nil, hs, hx, hr]
    exact hK _ _ h

set_option maxRecDepth 100000 in
set_option maxHeartbeats 1000000 in
theorem mof_any {w : World} {v p : Value} {key : List Nat} {xss : List (List Nat)} (hv : Bs w v key) (hp : Ps w p xss) (hk : Kw w) (hh : Hw w) (hlen : key.length ≤ 1073741000) (hxl : xss.flatten.length ≤ 1073740000) (hb : (1 + xss.length) * 24 ≤ 140737488355328) :
    Calls Tryd.prog 11 #[v, p] w fun e w' => e = .returned (.agg (u8s (hmac key xss.flatten)).toArray) ∧ But (fun _ => False) w w' := by
  have hz : ∀ w : World, (zeroValue 40).run Tryd.prog w = .ok (.agg (u8s (List.replicate 64 0)).toArray) w := fun _ => by kernel_rfl
  obtain ⟨Z, hZ⟩ : ∃ Z, Z = (u8s (List.replicate 64 0)).toArray := ⟨_, rfl⟩
  rw [← hZ] at hz
  have hz2 : ∀ w : World, (zeroValue 27).run Tryd.prog w = .ok (.agg (u8s (List.replicate 32 0)).toArray) w := fun _ => by kernel_rfl
  obtain ⟨O, hO⟩ : ∃ O, O = (u8s (List.replicate 32 0)).toArray := ⟨_, rfl⟩
  rw [← hO] at hz2
  have b1 : But (fun _ => False) w (w.alloc (.cells O 27)) := (But.refl _ w).alloc _
  have HBK := Hid.mk' (block_any (hv.but b1 (fun _ _ _ h => h)) (hk.but b1 (fun h => h)) (hh.but b1 (fun h => h)) hlen)
  have HBL := Hid.mk' (keyBlock_len key)
  have HBB := Hid.mk' (keyBlock_lt key hv.1)
  have HHM : Hid (hmac key xss.flatten = digest (maskBy 92 (keyBlock key) ++ digest (maskBy 54 (keyBlock key) ++ xss.flatten))) := rfl
  have HO := Hid.mk' hO
  have HZ := Hid.mk' hZ
  have HB1 := Hid.mk' b1
  have HV := Hid.mk' hv
  have HP := Hid.mk' hp
  have HK := Hid.mk' hk
  have HH := Hid.mk' hh
  have HXL := Hid.mk' hxl
  have HNB := Hid.mk' hb
  generalize keyBlock key = B at *
  clear hv hp hk hh hlen hxl hb b1 hZ hO
  go_enter Tryd.func11, Tryd.ntmps11
  go_wp2_with (first
    | (go_at_call 22; refine Calls.mono HBK.out ?_; rintro e w2 ⟨rfl, hb2⟩)
    | (refine wpList_store_u8s i64s rfl _ _ rfl w2.heap.size B HBL.out rfl (by exact rfl) (u8s (List.replicate 64 0)) rfl (by rw [HZ.out]; exact Blk.new rfl) ?_; intro w3 hb3 hbut3))
  have q3 : But (fun _ => False) w w3 := ((HB1.out.trans hb2).alloc _).then hbut3 (fun i hi e => by have := (HB1.out.trans hb2).size; omega)
  have HR3 : Hid (Blk w3 w.heap.size 27 (u8s (List.replicate 32 0))) := by
    have h1 : Blk (w.alloc (.cells O 27)) w.heap.size 27 (u8s (List.replicate 32 0)) := by rw [HO.out]; exact Blk.new rfl
    have h2 := h1.but hb2 (fun h => h)
    have h3 : Blk (w2.alloc (.cells Z 40)) w.heap.size 27 (u8s (List.replicate 32 0)) := h2.but ((But.refl (fun _ => False) _).alloc _) (fun h => h)
    exact h3.but hbut3 (by have := h2.lt; omega)
  have HQ3 := Hid.mk' q3
  have HT3 : Hid (Two w3 w3 w2.heap.size 0 0 B (maskBy 54 B) (maskBy 92 B) false false false false) :=
    ⟨But.refl _ _, hb3, hb3.lt, nofun, nofun, nofun, nofun, nofun⟩
  obtain ⟨g5, hg5⟩ : ∃ g5, g5 = w2.heap.size := ⟨_, rfl⟩
  rw [← hg5] at HT3 ⊢
  clear hb3 hbut3 q3 hg5 hb2 HBK
  simp only [Act.put]
  refine region_inv (by kernel_rfl) (by kernel_rfl) (by kernel_rfl) (fun l a w' => ∃ (l0 l1 l2 l3 l4 l5 l6 l7 : Bool) (g6 g7 : Nat) (y6 y7 y11 y12 y13 y14 : Value), l = [l0, l1, l2, l3, l4, l5, l6, l7] ∧
    a = ⟨#[v, p, undef, undef, .pointer (some ⟨w.heap.size, 0, none⟩), .pointer (some ⟨g5, 0, none⟩), y6, y7, undef, v, .agg (u8s B).toArray, y11, y12, y13, y14, undef, undef, undef, undef, undef, undef, undef, undef, undef], []⟩ ∧
    (l0 = true → y11 = .agg (u8s B).toArray) ∧ (l1 = true → y12 = .agg (u8s (maskBy 54 B)).toArray) ∧ (l2 = true → y13 = .agg (u8s B).toArray) ∧ (l3 = true → y14 = .agg (u8s (maskBy 92 B)).toArray) ∧
    (l4 = true → y6 = .pointer (some ⟨g6, 0, none⟩)) ∧ (l5 = true → y7 = .pointer (some ⟨g7, 0, none⟩)) ∧ Two w3 w' g5 g6 g7 B (maskBy 54 B) (maskBy 92 B) l4 l5 l6 l7) ?_ ?_ ?_
  · exact ⟨false, false, false, false, false, false, false, false, 0, 0, undef, undef, undef, undef, undef, undef, rfl, rfl, nofun, nofun, nofun, nofun, nofun, nofun, HT3.out.grow (But.refl _ _).drew⟩
  · rintro l a w' i o ⟨l0, l1, l2, l3, l4, l5, l6, l7, g6, g7, y6, y7, y11, y12, y13, y14, rfl, rfl, h0, h1, h2, h3, h4, h5, ht⟩ hf hd hi ho
    match i, hi with
    | 0, _ =>
      obtain rfl := Option.some.inj ho
      refine op_load_u8s Tryd.underlying40 i64s _ rfl g5 B HBL.out rfl ht.b5 ?_
      exact ⟨true, l1, l2, l3, l4, l5, l6, l7, g6, g7, y6, y7, _, y12, y13, y14, rfl, rfl, fun _ => rfl, h1, h2, h3, h4, h5, ht⟩
    | 1, _ =>
      obtain rfl := Option.some.inj ho
      obtain rfl : l0 = true := by simpa [Region.binds] using hd
      obtain rfl := h0 rfl
      refine op_call 23 [_, _] _ #[.agg (u8s B).toArray, .int .u8 ((54 : Nat) : Int)] rfl rfl (callable23 _ _) ((masked_any (m := 54) HBL.out HBB.out (by decide)).mono ?_)
      rintro e w5 ⟨rfl, hb5⟩
      exact ⟨_, rfl, true, true, l2, l3, l4, l5, l6, l7, g6, g7, y6, y7, _, _, y13, y14, rfl, rfl, h0, fun _ => rfl, h2, h3, h4, h5, ht.grow hb5⟩
    | 2, _ =>
      obtain rfl := Option.some.inj ho
      refine op_load_u8s Tryd.underlying40 i64s _ rfl g5 B HBL.out rfl ht.b5 ?_
      exact ⟨l0, l1, true, l3, l4, l5, l6, l7, g6, g7, y6, y7, y11, y12, _, y14, rfl, rfl, h0, h1, fun _ => rfl, h3, h4, h5, ht⟩
    | 3, _ =>
      obtain rfl := Option.some.inj ho
      obtain ⟨rfl, rfl⟩ : l2 = true ∧ l1 = true := by simpa [Region.binds] using hd
      obtain rfl := h2 rfl
      refine op_call 23 [_, _] _ #[.agg (u8s B).toArray, .int .u8 ((92 : Nat) : Int)] rfl rfl (callable23 _ _) ((masked_any (m := 92) HBL.out HBB.out (by decide)).mono ?_)
      rintro e w5 ⟨rfl, hb5⟩
      exact ⟨_, rfl, l0, true, true, true, l4, l5, l6, l7, g6, g7, y6, y7, y11, y12, _, _, rfl, rfl, h0, h1, h2, fun _ => rfl, h4, h5, ht.grow hb5⟩
    | 4, _ =>
      obtain rfl := Option.some.inj ho
      obtain rfl : l4 = false := by simpa using hf
      refine op_alloc 40 Z rfl (hz _) ?_
      refine ⟨l0, l1, l2, l3, true, l5, l6, l7, w'.heap.size, g7, _, y7, y11, y12, y13, y14, rfl, rfl, h0, h1, h2, h3, fun _ => rfl, h5, ?_⟩
      obtain rfl : l6 = false := by cases l6; rfl; exact absurd (ht.i6 rfl) (by simp)
      exact ht.new6 HZ.out
    | 5, _ =>
      obtain rfl := Option.some.inj ho
      obtain rfl : l5 = false := by simpa using hf
      refine op_alloc 40 Z rfl (hz _) ?_
      refine ⟨l0, l1, l2, l3, l4, true, l6, l7, g6, w'.heap.size, y6, _, y11, y12, y13, y14, rfl, rfl, h0, h1, h2, h3, h4, fun _ => rfl, ?_⟩
      obtain rfl : l7 = false := by cases l7; rfl; exact absurd (ht.i7 rfl) (by simp)
      exact ht.new7 HZ.out
    | 6, _ =>
      obtain rfl := Option.some.inj ho
      obtain ⟨rfl, rfl⟩ : l4 = true ∧ l1 = true := by
        simp [Region.binds] at hd
        exact ⟨hd.1, hd.2.1⟩
      obtain rfl : l6 = false := by simpa using hf
      obtain rfl := h4 rfl
      obtain rfl := h1 rfl
      refine op_store_u8s i64s _ _ rfl g6 (maskBy 54 B) (by rw [maskBy_len, HBL.out]) rfl rfl _ (by simp [u8s]) (ht.b6 rfl).2 ?_
      intro w5 hb5 hbut5
      exact ⟨l0, true, l2, l3, true, l5, true, l7, g6, g7, _, y7, y11, _, y13, y14, rfl, rfl, h0, h1, h2, h3, h4, h5, ht.put6 hb5 hbut5⟩
    | 7, _ =>
      obtain rfl := Option.some.inj ho
      obtain ⟨rfl, rfl⟩ : l5 = true ∧ l3 = true := by
        simp [Region.binds] at hd
        exact ⟨hd.1, hd.2.1⟩
      obtain rfl : l7 = false := by simpa using hf
      obtain rfl := h5 rfl
      obtain rfl := h3 rfl
      refine op_store_u8s i64s _ _ rfl g7 (maskBy 92 B) (by rw [maskBy_len, HBL.out]) rfl rfl _ (by simp [u8s]) (ht.b7 rfl).2 ?_
      intro w5 hb5 hbut5
      exact ⟨l0, l1, l2, true, l4, true, l6, true, g6, g7, y6, _, y11, y12, y13, _, rfl, rfl, h0, h1, h2, h3, h4, h5, ht.put7 hb5 hbut5⟩
    | n + 8, h => exact absurd h (by simp)
  · rintro a w' ⟨l0, l1, l2, l3, l4, l5, l6, l7, g6, g7, y6, y7, y11, y12, y13, y14, hl, rfl, h0, h1, h2, h3, h4, h5, ht⟩
    obtain ⟨rfl, rfl, rfl, rfl, rfl, rfl, rfl, rfl⟩ : l0 = true ∧ l1 = true ∧ l2 = true ∧ l3 = true ∧ l4 = true ∧ l5 = true ∧ l6 = true ∧ l7 = true := by
      simpa [List.replicate, eq_comm] using hl
    obtain rfl := h4 rfl
    obtain rfl := h5 rfl
    clear h4 h5 hl h0 h1 h2 h3 HT3
    have hb6 := (ht.b6 rfl).2
    have hb7 := (ht.b7 rfl).2
    rw [if_pos rfl] at hb6 hb7
    have s6 := (ht.b6 rfl).1
    have s7 := (ht.b7 rfl).1
    have q4 : But (fun _ => False) w w' := HQ3.out.trans ht.but
    have HR4 := Hid.mk' (HR3.out.but ht.but (fun h => h))
    have HML : Hid ((maskBy 54 B).length = 64) := by show _ = _; rw [maskBy_len, HBL.out]
    have HNL : Hid ((maskBy 92 B).length = 64) := by show _ = _; rw [maskBy_len, HBL.out]
    have hMB := maskBy_lt 54 B (by decide) HBB.out
    have HNBB := Hid.mk' (maskBy_lt 92 B (by decide) HBB.out)
    generalize maskBy 54 B = M at *
    generalize maskBy 92 B = N at *
    have hbs6 : Bs w' (.slice (some ⟨g6, 0, none⟩) 64 64) M := by
      have h := Blk.bs (Y := []) (cap := 64) (by simpa using hb6) hMB (by rw [HML.out]; decide) (by rw [HML.out]; decide) (by rw [HML.out]; decide)
      rw [HML.out] at h; exact h
    obtain ⟨vA, wA, hA, hPA, hBA⟩ := append_parts 23 hbs6 (HP.out.below q4) HNB.out
    have q5 : But (fun _ => False) w wA := q4.trans hBA
    have hof := of_any hPA (HK.out.but q5 (fun h => h)) (HH.out.but q5 (fun h => h)) (by simp only [List.flatten_cons, List.length_append, HML.out]; have := HXL.out; omega) (by simp only [List.length_cons]; have := HNB.out; omega)
    rw [List.flatten_cons] at hof
    have HOF := Hid.mk' hof
    have HA := Hid.mk' hA
    have HQ5 := Hid.mk' q5
    have HR5 := Hid.mk' (HR4.out.but hBA (fun h => h))
    have HB7 := Hid.mk' (hb7.but hBA (fun h => h))
    have HDL := Hid.mk' (digest_len' (M ++ xss.flatten))
    have HDB := Hid.mk' (digest_lt (M ++ xss.flatten))
    generalize digest (M ++ xss.flatten) = D at *
    clear hof hA q5 hPA hBA hbs6 hb6 hb7 q4 ht s6 hMB
    go_wp2_with (first
      | (at_builtin; refine wpList_append_run rfl _ _ 23 rfl _ _ rfl rfl HA.out ?_)
      | (go_at_call 17; refine Calls.mono HOF.out ?_; rintro e w6 ⟨rfl, hb6⟩)
      | (refine wpList_store_u8s i32s rfl _ _ rfl w6.heap.size D HDL.out rfl (by exact rfl) (u8s (List.replicate 32 0)) rfl (by rw [HO.out]; exact Blk.new rfl) ?_; intro w7 hb7 hbut7))
    have q7 : But (fun _ => False) w6 w7 := ((But.refl _ w6).alloc _).then hbut7 (fun i hi e => by omega)
    have hR7 := (HR5.out.but hb6 (fun h => h)).but q7 (fun h => h)
    have hN7 := (HB7.out.but hb6 (fun h => h)).but q7 (fun h => h)
    have Q7 : Hid (But (fun _ => False) w w7) := (HQ5.out.trans hb6).trans q7
    have hbsN : Bs w7 (.slice (some ⟨g7, 0, none⟩) 64 64) N := by
      have h := Blk.bs (Y := []) (cap := 64) (by simpa using hN7) HNBB.out (by rw [HNL.out]; decide) (by rw [HNL.out]; decide) (by rw [HNL.out]; decide)
      rw [HNL.out] at h; exact h
    have hbsD : Bs w7 (.slice (some ⟨w6.heap.size, 0, none⟩) 32 32) D := by
      have h := Blk.bs (Y := []) (cap := 32) (by simpa using hb7) HDB.out (by rw [HDL.out]; decide) (by rw [HDL.out]; decide) (by rw [HDL.out]; decide)
      rw [HDL.out] at h; exact h
    have hs64 : ∀ w : World, (Instr.sliceAt 40 (.pointer (some ⟨g7, 0, none⟩)) none none none).run Tryd.prog w = .ok (.slice (some ⟨g7, 0, none⟩) 64 64) w := fun _ => by kernel_rfl
    have hs32 : ∀ w : World, (Instr.sliceAt 27 (.pointer (some ⟨w6.heap.size, 0, none⟩)) none none none).run Tryd.prog w = .ok (.slice (some ⟨w6.heap.size, 0, none⟩) 32 32) w := fun _ => by kernel_rfl
    simp only [Act.put]
    refine region_inv (by kernel_rfl) (by kernel_rfl) (by kernel_rfl) (fun l a wx => ∃ (l0 l1 l2 l3 l4 : Bool) (y20 y21 y22 y23 : Value), l = [l0, l1, l2, l3, l4] ∧
      a = ⟨#[v, p, undef, undef, .pointer (some ⟨w.heap.size, 0, none⟩), .pointer (some ⟨g5, 0, none⟩), .pointer (some ⟨g6, 0, none⟩), .pointer (some ⟨g7, 0, none⟩), .pointer (some ⟨w6.heap.size, 0, none⟩), v, .agg (u8s B).toArray, y11, y12, y13, y14, .slice (some ⟨g6, 0, none⟩) 64 64, .slice (some ⟨w'.heap.size, 0, none⟩) 1 1, p, vA, .agg (u8s D).toArray, y20, y21, y22, y23], []⟩ ∧
      (l0 = true → y20 = .slice (some ⟨g7, 0, none⟩) 64 64) ∧ (l1 = true → y21 = .slice (some ⟨w6.heap.size, 0, none⟩) 32 32) ∧ (l2 = true → l4 = false → Ps wx y22 [N, D]) ∧ (l3 = true → y23 = .agg (u8s (digest (N ++ D))).toArray) ∧
      (l4 = false → But (fun _ => False) w7 wx ∧ Blk wx w.heap.size 27 (u8s (List.replicate 32 0))) ∧ (l4 = true → Blk wx w.heap.size 27 (u8s (digest (N ++ D)))) ∧ But (fun _ => False) w wx ∧ (l4 = true → l3 = true)) ?_ ?_ ?_
    · exact ⟨false, false, false, false, false, undef, undef, undef, undef, rfl, rfl, nofun, nofun, nofun, nofun, fun _ => ⟨(But.refl _ _).drew, hR7⟩, nofun, Q7.out.drew, nofun⟩
    · rintro l a wx i o ⟨l0, l1, l2, l3, l4, y20, y21, y22, y23, rfl, rfl, h0, h1, h2, h3, h4, h5, h6, h7⟩ hf hd hi ho
      match i, hi with
      | 0, _ =>
        obtain rfl := Option.some.inj ho
        refine op_slice 40 _ _ _ rfl rfl (hs64 _) ?_
        exact ⟨true, l1, l2, l3, l4, _, y21, y22, y23, rfl, rfl, fun _ => rfl, h1, h2, h3, h4, h5, h6, h7⟩
      | 1, _ =>
        obtain rfl := Option.some.inj ho
        refine op_slice 27 _ _ _ rfl rfl (hs32 _) ?_
        exact ⟨l0, true, l2, l3, l4, y20, _, y22, y23, rfl, rfl, h0, fun _ => rfl, h2, h3, h4, h5, h6, h7⟩
      | 2, _ =>
        obtain rfl := Option.some.inj ho
        obtain ⟨rfl, rfl⟩ : l0 = true ∧ l1 = true := by simpa [Region.binds] using hd
        obtain rfl := h0 rfl
        obtain rfl := h1 rfl
        refine op_value (w' := wx.alloc (.cells #[.slice (some ⟨g7, 0, none⟩) 64 64, .slice (some ⟨w6.heap.size, 0, none⟩) 32 32] 22)) (.slice (some ⟨wx.heap.size, 0, none⟩) 2 2) (by kernel_rfl) ?_
        have k : But (fun _ => False) wx (wx.alloc (.cells #[.slice (some ⟨g7, 0, none⟩) 64 64, .slice (some ⟨w6.heap.size, 0, none⟩) 32 32] 22)) := (But.refl _ wx).alloc _
        refine ⟨true, true, true, l3, l4, _, _, _, y23, rfl, rfl, h0, h1, fun _ e => ?_, h3, fun e => ⟨(h4 e).1.trans k, (h4 e).2.but k (fun h => h)⟩, fun e => (h5 e).but k (fun h => h), h6.trans k, h7⟩
        exact Ps.two' (hbsN.but (h4 e).1 (fun _ _ _ h => h)) (hbsD.but (h4 e).1 (fun _ _ _ h => h))
      | 3, _ =>
        obtain rfl := Option.some.inj ho
        obtain rfl : l2 = true := by simpa [Region.binds] using hd
        refine op_call 17 [_] _ #[y22] rfl rfl (callable17 _ _) ?_
        cases l4 with
        | true =>
          obtain rfl : l3 = false := by simpa using hf
          exact absurd (h7 rfl) (by simp)
        | false =>
          refine (of_any (h2 rfl rfl) (HK.out.but h6 (fun h => h)) (HH.out.but h6 (fun h => h)) (by simp [HNL.out, HDL.out]) (by simp)).mono ?_
          rintro e w9 ⟨rfl, hb9⟩
          refine ⟨_, rfl, l0, l1, true, true, false, y20, y21, y22, _, rfl, rfl, h0, h1, fun e1 e2 => (h2 e1 e2).below hb9, fun _ => ?_, fun e => ⟨(h4 e).1.trans hb9, (h4 e).2.but hb9 (fun h => h)⟩, nofun, h6.trans hb9, nofun⟩
          simp
      | 4, _ =>
        obtain rfl := Option.some.inj ho
        obtain rfl : l3 = true := by
          simp [Region.binds] at hd
          exact hd.1
        obtain rfl : l4 = false := by simpa using hf
        obtain rfl := h3 rfl
        refine op_store_u8s i32s _ _ rfl w.heap.size (digest (N ++ D)) (digest_len' _) rfl rfl _ (by simp [u8s]) (h4 rfl).2 ?_
        intro w9 hb9 hbut9
        exact ⟨l0, l1, l2, true, true, y20, y21, y22, _, rfl, rfl, h0, h1, nofun, h3, nofun, fun _ => hb9, h6.then hbut9 (fun i hi e => by omega), fun _ => rfl⟩
      | n + 5, h => exact absurd h (by simp)
    · rintro a wx ⟨l0, l1, l2, l3, l4, y20, y21, y22, y23, hl, rfl, h0, h1, h2, h3, h4, h5, h6, h7⟩
      obtain ⟨rfl, rfl, rfl, rfl, rfl⟩ : l0 = true ∧ l1 = true ∧ l2 = true ∧ l3 = true ∧ l4 = true := by
        simpa [List.replicate, eq_comm] using hl
      have hb9 := h5 rfl
      go_wp2
      refine bodyPost_ret (results_cell_row rfl _ _ w.heap.size _ _ _ _ rfl hb9 Tryd.underlying27 rfl (by rw [i32s]; simp [u8s, digest_len'])) rfl ⟨by rw [HHM.out], h6⟩
end Go.Proofs.YtkelfjpnjhjmoaaDoor
