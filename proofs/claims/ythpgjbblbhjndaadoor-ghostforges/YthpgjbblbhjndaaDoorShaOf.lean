/- The program's Of. -/
import Derived.Test.YthpgjbblbhjndaaDoorShaSum
namespace Go.Proofs.YthpgjbblbhjndaaDoor
open Go.RowKit

/-- The slice v holds slices that hold these bytes. -/
def Ps (w : World) (v : Value) (xss : List (List Nat)) : Prop :=
  (xss = [] ∧ (v = .slice none 0 0 ∨ ∃ a cap, v = .slice (some a) 0 cap)) ∨
  (0 < xss.length ∧ ∃ b off cap, v = .slice (some ⟨b, off, none⟩) xss.length cap ∧ b < w.heap.size ∧
    ∀ i, i < xss.length → ∃ u, w.cell? ⟨b, off + i, none⟩ = some u ∧ Bs w u (xss.getD i []))
theorem Ps.below {w w' : World} {v : Value} {xss : List (List Nat)} (h : Ps w v xss) (k : But (fun _ => False) w w') : Ps w' v xss := by
  rcases h with h | ⟨h0, b, off, cap, e, hb, hc⟩
  · exact .inl h
  · refine .inr ⟨h0, b, off, cap, e, Nat.lt_of_lt_of_le hb k.size, fun i hi => ?_⟩
    obtain ⟨u, h1, h2⟩ := hc i hi
    exact ⟨u, (World.cell?_of_block (k.block b hb (fun h => h))).trans h1, h2.but k (fun _ _ _ h => h)⟩

theorem Bs.own {w : World} {v : Value} {xs : List Nat} (h : Bs w v xs) (h0 : 0 < xs.length) {g : Nat} (hg : w.heap.size ≤ g) : v.ownBlock ≠ some g := by
  obtain ⟨_, _, ⟨rfl, _⟩ | ⟨_, b, off, cap, rfl, _, hb, _⟩⟩ := h
  · simp at h0
  · intro e
    have e' : some b = some g := e
    have := Option.some.inj e'
    omega
theorem Ps.gen {w : World} {v : Value} {xss : List (List Nat)} (h : Ps w v xss) : ∃ ao cap, v = .slice ao xss.length cap ∧ (0 < xss.length → ∃ b off, ao = some ⟨b, off, none⟩ ∧ b < w.heap.size ∧
    ∀ i, i < xss.length → ∃ u, w.cell? ⟨b, off + i, none⟩ = some u ∧ Bs w u (xss.getD i [])) := by
  rcases h with ⟨rfl, rfl | ⟨a, cap, rfl⟩⟩ | ⟨h0, b, off, cap, rfl, hb, hc⟩
  · exact ⟨none, 0, rfl, fun h => absurd h (Nat.lt_irrefl _)⟩
  · exact ⟨some a, cap, rfl, fun h => absurd h (Nat.lt_irrefl _)⟩
  · exact ⟨_, cap, rfl, fun _ => ⟨b, off, rfl, hb, hc⟩⟩
theorem flat_next (xss : List (List Nat)) (k : Nat) (h : k < xss.length) : (xss.take (k + 1)).flatten = (xss.take k).flatten ++ xss.getD k [] := by
  have e : xss.take (k + 1) = xss.take k ++ [xss.getD k []] := by
    rw [List.take_add_one, List.getElem?_eq_getElem h]
    simp [List.getD, h]
  rw [e, List.flatten_append]; simp
theorem flat_le (xss : List (List Nat)) (k : Nat) : (xss.take k).flatten.length ≤ xss.flatten.length := by
  conv => rhs; rw [← List.take_append_drop k xss, List.flatten_append, List.length_append]
  omega

set_option maxRecDepth 100000 in
set_option maxHeartbeats 4000000 in
theorem of_any {w : World} {v : Value} {xss : List (List Nat)} (hv : Ps w v xss) (hk : Kw w) (hh : Hw w) (hlen : xss.flatten.length ≤ 1073741000) (hxl : xss.length ≤ 281474976710656) :
    Calls Tryd.prog 34 #[v] w fun e w' => e = .returned (.agg (u8s (digest xss.flatten)).toArray) ∧ But (fun _ => False) w w' := by
  have hi25 : (Tryd.prog.info? 35).map (·.size) = some 32 := by kernel_rfl
  have hz : ∀ w : World, (zeroValue 84).run Tryd.prog w = .ok (.agg zero73.toArray) w := fun _ => by kernel_rfl
  obtain ⟨Z, hZ⟩ : ∃ Z, Z = zero73.toArray := ⟨_, rfl⟩
  have hz2 : ∀ w : World, (zeroValue 35).run Tryd.prog w = .ok (.agg (u8s (List.replicate 32 0)).toArray) w := fun _ => by kernel_rfl
  obtain ⟨O, hO⟩ : ∃ O, O = (u8s (List.replicate 32 0)).toArray := ⟨_, rfl⟩
  rw [← hZ] at hz
  rw [← hO] at hz2
  have h2 : 2 < w.heap.size := hk.lt
  have HK := Hid.mk' hk
  have HH := Hid.mk' hh
  have HN := Hid.mk' hlen
  have HR0 : Hid (Blk ((w.alloc (.cells O 35)).alloc (.cells Z 84)) w.heap.size 35 (u8s (List.replicate 32 0))) := by
    rw [hO]
    exact (Blk.new rfl).but ((But.refl (fun _ => False) _).alloc _) (fun h => h)
  have HS0 : Hid (Sm ((w.alloc (.cells O 35)).alloc (.cells Z 84)) (w.heap.size + 1) (xss.take 0).flatten) := by
    rw [hZ]; exact Sm.zero (Blk.new (by simp))
  have HB0 : Hid (But (fun _ => False) w ((w.alloc (.cells O 35)).alloc (.cells Z 84))) := ((But.refl _ w).alloc _).alloc _
  obtain ⟨ao, cap, rfl, hps⟩ := hv.gen
  have HPS := Hid.mk' hps
  have HFN := Hid.mk' (flat_next xss)
  have HFL := Hid.mk' (flat_le xss)
  obtain ⟨F, hF⟩ : ∃ F : Nat → List Nat, F = fun k => (xss.take k).flatten := ⟨_, rfl⟩
  obtain ⟨G, hG⟩ : ∃ G : Nat → List Nat, G = fun k => xss.getD k [] := ⟨_, rfl⟩
  obtain ⟨n, hn⟩ : ∃ n, n = xss.length := ⟨_, rfl⟩
  have HF : Hid (∀ k, k < n → F (k + 1) = F k ++ G k) := by rw [hn, hF, hG]; exact HFN.out
  have HF0 : Hid (F 0 = (xss.take 0).flatten) := by rw [hF]; rfl
  have HFE : Hid (F n = xss.flatten) := by show _ = _; rw [hF, hn]; simp
  have HFB : Hid (∀ k, (F k).length ≤ 1073741000) := by rw [hF]; intro k; exact Nat.le_trans (HFL.out k) HN.out
  have HPG : Hid (0 < n → ∃ b off, ao = some ⟨b, off, none⟩ ∧ b < w.heap.size ∧ ∀ i, i < n → ∃ u, w.cell? ⟨b, off + i, none⟩ = some u ∧ Bs w u (G i)) := by rw [hn, hG]; exact HPS.out
  rw [← hn] at hxl ⊢
  rw [← HFE.out]
  rw [← HF0.out] at HS0
  clear hv hk hh hlen hps HFN HFL hF hG hn HPS HF0 hZ hO HFE HN
  go_enter Tryd.func34, Tryd.ntmps34
  go_wp2
  go_loopw [8] (fun i wr => ∃ k : Nat, k ≤ n ∧ i = .int .i64 k ∧ Sm wr (w.heap.size + 1) (F k) ∧ Blk wr w.heap.size 35 (u8s (List.replicate 32 0)) ∧ But (fun _ => False) w wr) (fun i _ => n - (intOf i).toNat)
  case atStart => exact ⟨0, Nat.zero_le _, rfl, HS0.out, HR0.out, HB0.out⟩
  case round =>
    obtain ⟨k, hkn, rfl, hsm, hr, hbt⟩ := hrel
    have HR := Hid.mk' hr
    have HBT := Hid.mk' hbt
    have HSM := Hid.mk' hsm
    have hszr := hbt.size
    have HKr := Hid.mk' (HK.out.but hbt (fun h => h))
    have HHr := Hid.mk' (HH.out.but hbt (fun h => h))
    clear hr hbt hsm
    by_cases hlt : k < n
    · obtain ⟨b, off, rfl, hb, hc⟩ := HPG.out (by omega)
      obtain ⟨u, hu, hbs⟩ := hc k hlt
      have hu' : wr.cell? ⟨b, off + k, none⟩ = some u := (World.cell?_of_block (HBT.out.block b hb (fun h => h))).trans hu
      have hbs' : Bs wr u (G k) := hbs.but HBT.out (fun _ _ _ h => h)
      have hlti : (k : Int) < (n : Int) := by omega
      have hle := HFB.out (k + 1)
      rw [HF.out k hlt, List.length_append] at hle
      have HWR := Hid.mk' (write_any hbs' HSM.out HKr.out HHr.out (by omega) (fun h0 => hbs.own h0 (by omega)) (by omega))
      rw [← HF.out k hlt] at HWR
      obtain ⟨au, cu, rfl, _, _⟩ := hbs.gen
      clear hu hbs hbs' hle hc
      go_wp2_with (go_at_call 42; refine Calls.mono HWR.out ?_; rintro e w4 ⟨rfl, hsm4, hbut4⟩)
      refine ⟨⟨k + 1, by omega, by go_num, hsm4, HR.out.but hbut4 (by omega), HBT.out.then hbut4 (fun i hi e => by omega)⟩, by simp [intOf]; omega⟩
    · have hge : ¬ ((k : Int) < (n : Int)) := by omega
      obtain rfl : k = n := by omega
      have HSU := Hid.mk' (sum_any (.inr ⟨_, rfl, HSM.out⟩) HKr.out HHr.out (HFB.out k))
      obtain ⟨D, hD⟩ : ∃ D, D = digest (F k) := ⟨_, rfl⟩
      have hdl : (u8s D).length = 32 := by rw [hD]; simp [digest, outb, u8s]
      rw [← hD] at HSU
      have HD := Hid.mk' hD
      have KS2 : Hid (∀ (w6 : World), But (fun _ => False) wr w6 → ∀ (ops : Array Oper) (rest : List Oper) (o : Oper) (a : Act) (Q : Exit → Act → World → Prop) (x y : Operand), o.guard = none → o.op = .store 35 x y → a.eval x = .pointer (some ⟨w.heap.size, 0, none⟩) → a.eval y = .agg (u8s D).toArray → (∀ w', Blk w' w.heap.size 35 (u8s D) → But (· = w.heap.size) w6 w' → wpList Tryd.prog ops Q rest (a.put o.dst undef) w') → wpList Tryd.prog ops Q (o :: rest) a w6) := by
        intro w6 hb6 ops rest o a Q x y h1 h2 h3 h4 h5
        have hRw := HR.out.but hb6 (fun h => h)
        refine wpList_store_at h1 35 x y h2 w.heap.size 0 (u8s D) h3 h4 35 [] (u8s (List.replicate 32 0)) [] (by simpa using hRw) rfl (by rw [hdl]; rfl) (by rw [hdl]; exact hi25) (u8s_one _) ?_
        intro w' hb' hb2
        exact h5 w' (by simpa using hb') hb2
      have HDL := Hid.mk' hdl
      clear hdl hD
      go_wp2_with (first
        | (go_at_call 43; refine Calls.mono HSU.out ?_; rintro e w4 ⟨rfl, hbut4⟩)
        | (refine KS2.out _ hbut4 _ _ _ _ _ _ _ rfl rfl rfl (by exact rfl) ?_; intro w5 hb5 hbut5))
      refine bodyPost_ret (results_cell_row rfl _ _ w.heap.size _ _ _ _ rfl hb5 Tryd.underlying35 rfl (by rw [List.size_toArray, HDL.out]; exact hi25)) rfl ⟨by rw [HD.out], ?_⟩
      exact (HBT.out.trans hbut4).then hbut5 (fun i hi e => by omega)
end Go.Proofs.YthpgjbblbhjndaaDoor
