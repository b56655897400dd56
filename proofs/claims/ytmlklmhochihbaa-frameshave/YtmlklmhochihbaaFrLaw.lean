/- A table of a law's own: what its calls leave of all that isn't the table's. -/
import Derived.Test.YtmlklmhochihbaaFrKeys
namespace Go.Proofs.Ytmlklmhochihbaa
open Go.RowKit Go.Maps

/-- The table at gt is new since w0, and no block of F is its. -/
structure Fl (F : Nat → Prop) (w0 w : World) (gt : Nat) (s : St) : Prop where
  ex : ∃ own, Ft w own gt s ∧ ∀ b, own b ≠ .none → w0.heap.size ≤ b ∧ ¬ F b
  grow : Grow w0 w
  lt : ∀ b, F b → b < w.heap.size
/-- What a call turns. -/
abbrev Fo (F : Nat → Prop) (w0 : World) : Nat → Prop := fun b => w0.heap.size ≤ b ∧ ¬ F b
section
variable {F G : Nat → Prop} {w0 w w' : World} {own : Owner} {gt : Nat} {s s' : St} {R : Nat → Prop} {f : FuncId} {args : Array Value} {r : Value}
theorem Fl.then (h : Fl F w0 w gt s) (k : Grow w w') : Fl F w0 w' gt s := by
  obtain ⟨o, h1, h2⟩ := h.ex
  exact ⟨⟨o, h1.grow k, h2⟩, h.grow.trans k, fun b hb => Nat.lt_of_lt_of_le (h.lt b hb) k.size⟩
/-- Blocks of the law are written. -/
theorem Fl.turn (h : Fl F w0 w gt s) (k : But R w w') (hr : ∀ b, R b → F b ∧ w0.heap.size ≤ b) : Fl F w0 w' gt s := by
  obtain ⟨o, h1, h2⟩ := h.ex
  refine ⟨⟨o, h1.but k (fun b hb e => (h2 b hb).2 (hr b e).1), h2⟩, h.grow.then k (fun i hi e => by have := (hr i e).2; omega), fun b hb => Nat.lt_of_lt_of_le (h.lt b hb) k.size⟩
/-- New memory is the law's. -/
theorem Fl.add (h : Fl F w0 w gt s) (k : Grow w w') (hG : ∀ b, G b → F b ∨ (w.heap.size ≤ b ∧ b < w'.heap.size)) : Fl G w0 w' gt s := by
  obtain ⟨o, h1, h2⟩ := h.ex
  refine ⟨⟨o, h1.grow k, fun b hb => ⟨(h2 b hb).1, fun e => ?_⟩⟩, h.grow.trans k, fun b hb => ?_⟩
  · rcases hG b e with e | e
    · exact (h2 b hb).2 e
    · exact hb (h1.top b e.1)
  · rcases hG b hb with e | e
    · exact Nat.lt_of_lt_of_le (h.lt b e) k.size
    · exact e.2
theorem Fl.less (h : Fl F w0 w gt s) (hG : ∀ b, G b → F b) : Fl G w0 w gt s := h.add (But.refl _ _) (fun b hb => .inl (hG b hb))
theorem Fl.to (h : ∀ b, own b ≠ .none → w0.heap.size ≤ b ∧ ¬ F b) (hg : Grow w0 w) (hl : ∀ b, F b → b < w.heap.size) (k : FtTo w own gt s w') : Fl F w0 w' gt s ∧ But (Fo F w0) w w' := by
  obtain ⟨o, h1, h2, h3⟩ := k.ex
  have hb : But (Fo F w0) w w' := k.but.mono (fun b _ e => h b e.1)
  refine ⟨⟨⟨o, h1, fun b hb => ?_⟩, hg.then hb (fun i hi e => by have := e.1; omega), fun b hb2 => Nat.lt_of_lt_of_le (hl b hb2) hb.size⟩, hb⟩
  by_cases e : o b = own b
  · exact h b (by rw [← e]; exact hb)
  · have h4 := h3 b e
    exact ⟨Nat.le_trans hg.size h4, fun e2 => by have := hl b e2; omega⟩
/-- A call on the table. -/
theorem Fl.call (h : Fl F w0 w gt s) (c : ∀ own, Ft w own gt s → (∀ b, own b ≠ .none → w0.heap.size ≤ b ∧ ¬ F b) → Calls Try.prog f args w fun e w' => e = .returned r ∧ FtTo w own gt s' w') :
    Calls Try.prog f args w fun e w' => e = .returned r ∧ Fl F w0 w' gt s' ∧ But (Fo F w0) w w' := by
  obtain ⟨o, h1, h2⟩ := h.ex
  exact (c o h1 h2).mono (fun e w' k => ⟨k.1, Fl.to h2 h.grow h.lt k.2⟩)
/-- A call that only reads. -/
theorem Fl.ask (h : Fl F w0 w gt s) (c : ∀ own, Ft w own gt s → Calls Try.prog f args w fun e w' => e = .returned r ∧ Grow w w') :
    Calls Try.prog f args w fun e w' => e = .returned r ∧ Fl F w0 w' gt s ∧ Grow w w' := by
  obtain ⟨o, h1, h2⟩ := h.ex
  exact (c o h1).mono (fun e w' k => ⟨k.1, h.then k.2, k.2⟩)
theorem Fl.same (h : Fl F w0 w gt s) (c : ∀ own, Ft w own gt s → Calls Try.prog f args w fun e w' => e = .returned r ∧ w' = w) :
    Calls Try.prog f args w fun e w' => e = .returned r ∧ w' = w := by
  obtain ⟨o, h1, h2⟩ := h.ex
  exact c o h1
theorem Fl.ok (h : Fl F w0 w gt s) : Sok s := by
  obtain ⟨o, h1, h2⟩ := h.ex
  exact h1.ok
variable {K t n : Int} {y : Nat}
theorem fl_reserve (h : Fl F w0 w gt s) (ht : i64 t) : Calls Try.prog 20 #[ptr gt, .int .i64 t, .int .i64 n] w fun e w' => e = .returned (.int .i64 (s.resc t n)) ∧ Fl F w0 w' gt (s.res t n) ∧ But (Fo F w0) w w' := h.call (fun _ k _ => reserve_any k ht)
theorem fl_free (h : Fl F w0 w gt s) (ht : i64 t) : Calls Try.prog 21 #[ptr gt, .int .i64 t] w fun e w' => e = .returned (.tuple #[]) ∧ Fl F w0 w' gt (s.free t) ∧ But (Fo F w0) w w' := h.call (fun _ k _ => free_any k ht)
theorem fl_left (h : Fl F w0 w gt s) : Calls Try.prog 24 #[ptr gt] w fun e w' => e = .returned (.int .i64 s.left) ∧ w' = w := h.same (fun _ k => left_any k)
theorem fl_put (h : Fl F w0 w gt s) (hK : i64 K) {v : Value} {xs : List Nat} {q : Bool} (hv : Bf w (fun j => j < w0.heap.size ∨ F j) v xs) (hl : xs.length ≤ 1000000) :
    Calls Try.prog 16 #[ptr gt, .int .i64 K, v, .bool q] w fun e w' => e = .returned (.int .i64 (s.putc K)) ∧ Fl F w0 w' gt (s.put K xs q) ∧ But (Fo F w0) w w' :=
  h.call (fun o k ho => by
    cases hh : s.has K with
    | true => exact put_has k hK hh hv.1 hl
    | false =>
      by_cases hf : s.most ≤ s.fr.length
      · exact put_full k hK hh hf
      · refine put_new k hK hh (by omega) ⟨hv.1, fun h0 j hj => ?_⟩ hl
        cases he : o j with
        | none => exact he
        | _ =>
          have h1 := ho j (by rw [he]; exact fun e => nomatch e)
          rcases hv.2 h0 j hj with h2 | h2
          · omega
          · exact absurd h2 h1.2)
theorem fl_get (h : Fl F w0 w gt s) (hK : i64 K) (hh : s.has K = true) (hn : s.now < 1000000) : Calls Try.prog 18 #[ptr gt, .int .i64 K] w fun e w' => ∃ v, e = .returned (.tuple #[v, .int .i64 0]) ∧ Ow w' w.heap.size v (s.bytes K) ∧ (∀ k, v.ownBlock = some k → Fl (fun b => F b ∨ b = k) w0 w' gt (s.touch K oneF)) ∧ Fl F w0 w' gt (s.touch K oneF) ∧ But (Fo F w0) w w' := by
  obtain ⟨o, h1, h2⟩ := h.ex
  refine (get_has h1 hK hh hn).mono ?_
  rintro e w' ⟨v, w1, rfl, hto, how, hbe⟩
  obtain ⟨hf, hb⟩ := Fl.to h2 h.grow h.lt hto
  have hg : Grow w1 w' := But.of hbe
  refine ⟨v, rfl, how.mono hb.size, fun k hk => ?_, hf.then hg, hb.trans (hg.mono (fun _ _ h => h.elim))⟩
  have := how.ge k hk
  exact hf.add hg (fun b e => e.elim .inl (fun e => .inr ⟨by omega, by omega⟩))
theorem fl_getNot (h : Fl F w0 w gt s) (hK : i64 K) (hh : s.has K = false) : Calls Try.prog 18 #[ptr gt, .int .i64 K] w fun e w' => e = .returned (.tuple #[.slice none 0 0, .int .i64 5]) ∧ w' = w := h.same (fun _ k => get_not k hK hh)
theorem fl_clean (h : Fl F w0 w gt s) (hK : i64 K) : Calls Try.prog 27 #[ptr gt, .int .i64 K] w fun e w' => e = .returned (.int .i64 (if s.has K then 0 else 5)) ∧ Fl F w0 w' gt (s.clean K) ∧ But (Fo F w0) w w' := h.call (fun _ k _ => clean_any k hK)
theorem fl_written (h : Fl F w0 w gt s) (hK : i64 K) : Calls Try.prog 28 #[ptr gt, .int .i64 K] w fun e w' => e = .returned (.bool (s.mark K)) ∧ w' = w := h.same (fun _ k => written_any k hK)
theorem fl_pinned (h : Fl F w0 w gt s) (hK : i64 K) : Calls Try.prog 26 #[ptr gt, .int .i64 K] w fun e w' => e = .returned (.bool (s.pinned K)) ∧ w' = w := h.same (fun _ k => pinned_any k hK)
theorem fl_drop (h : Fl F w0 w gt s) (hK : i64 K) : Calls Try.prog 15 #[ptr gt, .int .i64 K] w fun e w' => e = .returned (.int .i64 (s.dropc K)) ∧ Fl F w0 w' gt (s.drop K) ∧ But (Fo F w0) w w' := h.call (fun _ k _ => fdrop_any k hK)
theorem fl_pin (h : Fl F w0 w gt s) (ht : i64 t) (hK : i64 K) (hp : s.pins.length < 100000) : Calls Try.prog 23 #[ptr gt, .int .i64 t, .int .i64 K] w fun e w' => e = .returned (.int .i64 (if s.has K then 0 else 5)) ∧ Fl F w0 w' gt (s.pin t K) ∧ But (Fo F w0) w w' :=
  h.call (fun o k _ => by
    cases hh : s.has K with
    | true => exact fpin_has k ht hK hh hp
    | false =>
      refine (fpin_not k hK hh).mono ?_
      rintro e w' ⟨rfl, rfl⟩
      refine ⟨rfl, ?_⟩
      unfold St.pin
      rw [hh]
      exact k.same (But.refl _ _))
theorem fl_warm (h : Fl F w0 w gt s) (hK : i64 K) (hn : s.now < 1000000) : Calls Try.prog 25 #[ptr gt, .int .i64 K, .float .f64 y] w fun e w' => e = .returned (.tuple #[]) ∧ Fl F w0 w' gt (s.warm K y) ∧ But (Fo F w0) w w' := h.call (fun _ k _ => warm_any k hK hn)
theorem fl_victim (h : Fl F w0 w gt s) : Calls Try.prog 22 #[ptr gt] w fun e w' => e = .returned (.tuple #[.int .i64 s.vic, .int .i64 s.vicc]) ∧ Fl F w0 w' gt s ∧ Grow w w' := h.ask (fun _ k => victim_any k)
theorem fl_keys (h : Fl F w0 w gt s) : Calls Try.prog 17 #[ptr gt] w fun e w' => ∃ v, e = .returned v ∧ KeysF w s v w' ∧ Fl F w0 w' gt s := by
  obtain ⟨o, h1, h2⟩ := h.ex
  refine (keys_any h1).mono ?_
  rintro e w' ⟨v, rfl, hk⟩
  exact ⟨v, rfl, hk, h.then hk.grow⟩
theorem fl_new (w : World) (n : Nat) (h1 : 1 ≤ n) (h2 : n ≤ 1024) : Calls Try.prog 14 #[.int .i64 (n : Int)] w fun e w' => ∃ gt, e = .returned (.tuple #[ptr gt, .int .i64 0]) ∧ Fl (fun _ => False) w w' gt (St.new n) := by
  refine (newf_any w n h1 h2).mono ?_
  rintro e w' ⟨rfl, hn⟩
  exact ⟨_, rfl, ⟨_, hn.ft, fun b hb => ⟨hn.new b hb, fun h => h⟩⟩, hn.grow, fun b hb => hb.elim⟩
end
theorem lit1F (w : World) (x : Nat) (hx : x < 256) : Bs (w.alloc (.cells #[.int .u8 (x : Int)] 5)) (.slice (some ⟨w.heap.size, 0, none⟩) 1 1) [x] := by
  refine ⟨by simpa using hx, by simp, .inr ⟨by simp, w.heap.size, 0, 1, rfl, by simp, by simp, fun i hi => ?_⟩⟩
  obtain rfl : i = 0 := by simpa using hi
  have hb : Blk (w.alloc (.cells #[.int .u8 (x : Int)] 5)) w.heap.size 5 [.int .u8 (x : Int)] := Blk.new (L := [.int .u8 (x : Int)]) rfl
  rw [Nat.add_zero, hb.cell]; rfl
def aw : St := (((St.new 2).put 5 [1] false).put 6 [2] true).touch 5 oneF
theorem aw_vic : aw.vic = 6 ∧ aw.vicc = 0 := by decide +kernel
theorem aw_put : (St.new 2).putc 5 = 0 ∧ ((St.new 2).put 5 [1] false).putc 6 = 0 ∧ (((St.new 2).put 5 [1] false).put 6 [2] true).has 5 = true ∧ (((St.new 2).put 5 [1] false).put 6 [2] true).bytes 5 = [1] := by decide +kernel
set_option maxRecDepth 100000 in
set_option maxHeartbeats 1000000 in
theorem awake_any (w : World) : Calls Try.prog 9 #[] w fun e w' => e = .returned (.bool true) ∧ Grow w w' := by
  have HN := Hid.mk' (fl_new w 2 (by decide) (by decide))
  go_enter Try.func9, Try.ntmps9
  go_wp2_with fail
  refine Calls.mono HN.out ?_
  rintro e w1 ⟨gt, rfl, h1⟩
  have HA1 : Hid (Grow w1 (w1.alloc (.cells #[.int .u8 1] 5))) := (But.refl _ w1).alloc _
  have hp1 := fl_put (K := 5) (q := false) (h1.add (G := fun b => b = w1.heap.size) HA1.out (fun b e => .inr ⟨by omega, by simp; omega⟩)) (by unfold i64; omega) (v := .slice (some ⟨w1.heap.size, 0, none⟩) 1 1) (xs := [1]) ⟨lit1F w1 1 (by decide), fun _ j hj => .inr (by cases hj; rfl)⟩ (by decide)
  rw [aw_put.1] at hp1
  have HP1 := Hid.mk' hp1
  clear hp1 h1
  go_wp2_with fail
  refine Calls.mono HP1.out ?_
  rintro e w2 ⟨rfl, h2, -⟩
  have HA2 : Hid (Grow w2 (w2.alloc (.cells #[.int .u8 2] 5))) := (But.refl _ w2).alloc _
  have hp2 := fl_put (K := 6) (q := true) (h2.add (G := fun b => b = w2.heap.size) HA2.out (fun b e => .inr ⟨by omega, by simp; omega⟩)) (by unfold i64; omega) (v := .slice (some ⟨w2.heap.size, 0, none⟩) 1 1) (xs := [2]) ⟨lit1F w2 2 (by decide), fun _ j hj => .inr (by cases hj; rfl)⟩ (by decide)
  rw [aw_put.2.1] at hp2
  have HP2 := Hid.mk' hp2
  clear hp2 h2
  go_wp2_with fail
  refine Calls.mono HP2.out ?_
  rintro e w3 ⟨rfl, h3, -⟩
  have hg := fl_get (h3.less (G := fun _ => False) (fun _ h => h.elim)) (K := 5) (by unfold i64; omega) aw_put.2.2.1 (by decide)
  rw [aw_put.2.2.2] at hg
  have HG := Hid.mk' hg
  clear hg h3
  go_wp2_with fail
  refine Calls.mono HG.out ?_
  rintro e w4 ⟨v, rfl, how, -, h4, -⟩
  have HB := Hid.mk' how.bs
  have hv := fl_victim (show Fl (fun _ => False) w w4 gt aw from h4)
  rw [aw_vic.1, aw_vic.2] at hv
  have HV := Hid.mk' hv
  obtain ⟨ao, nn, cap, rfl⟩ := how.bs.sl
  clear how h4 hv
  go_wp2_with fail
  refine Calls.mono HV.out ?_
  rintro e w5 ⟨rfl, h5, g5⟩
  have HA5 : Hid (Grow w5 (w5.alloc (.cells #[.int .u8 1] 5))) := (But.refl _ w5).alloc _
  have HS := Hid.mk' (same_any (HB.out.but (g5.trans HA5.out) (fun _ _ _ h => h)) (lit1F w5 1 (by decide)))
  have HGR := Hid.mk' (h5.grow.trans HA5.out)
  clear h5 g5
  go_wp2_with fail
  refine Calls.mono HS.out ?_
  rintro e w6 ⟨rfl, d, hw⟩
  have HG6 : Hid (Grow w w6) := by rw [hw]; exact HGR.out.drewN
  clear hw
  go_wp2
  go_ret
  exact ⟨rfl, HG6.out⟩
end Go.Proofs.Ytmlklmhochihbaa
