/- tree's reference: Root; rows of blocks cut. -/
import Derived.Test.YtbidllclcedjbaaDoorTrAllG
namespace Go.Proofs.YtbidllclcedjbaaDoor
open Go.RowKit

set_option maxRecDepth 100000 in
set_option maxHeartbeats 4000000 in
theorem rroot_any {w : World} {v pv : Value} {p : Pn} {L : List Bk} (hps : Ps w v L) (h0 : 0 < L.length) (hl : L.length ≤ 1000000) (hx : ∀ x ∈ L, x.length ≤ 300) (hh : 1 ≤ p.head ∧ p.head ≤ 1000000) :
    Calls Tryd.prog 24 #[pval p pv, v] w fun e w' => e = .returned (dkey (bd (p.head - 1) (L.getD (L.length - 1) []))) ∧ Grow w w' := by
  obtain ⟨Z, hZ⟩ : ∃ Z, Z = u8s z32 := ⟨_, rfl⟩
  have hz := z32v
  rw [← hZ] at hz
  have HZL : Hid (Z.length = 32) := by show _ = _; rw [hZ]; rfl
  obtain ⟨wb, gp, hbx⟩ := box_pl w p pv
  obtain ⟨W, hW⟩ : ∃ W, W = wb.alloc (.cells Z.toArray 26) := ⟨_, rfl⟩
  obtain ⟨g4, hg4⟩ : ∃ g, g = gp + 1 := ⟨_, rfl⟩
  have hsz : wb.heap.size = gp + 1 := by rw [hbx.ew, hbx.eg]; simp
  have hgW : Grow wb W := by rw [hW]; exact (But.refl _ wb).alloc _
  have HB4 : Hid (Blk W g4 26 Z) := by show Blk _ _ _ _; rw [hW, hg4]; exact Blk.new hsz
  have HEW := Hid.mk' hbx.ew
  have HGP := Hid.mk' hbx.eg
  have HW := Hid.mk' hW
  have HG4 := Hid.mk' hg4
  have HG := Hid.mk' (hbx.grow.trans hgW)
  have HBX := Hid.mk' (hbx.blk.but hgW (fun h => h))
  obtain ⟨n, hn⟩ : ∃ n, n = L.length := ⟨_, rfl⟩
  obtain ⟨va, vc, hve, hvg⟩ := hps.gen
  rw [← hn] at hve hvg h0 hl ⊢
  subst hve
  obtain ⟨b, off, rfl, hb, hc⟩ := hvg h0
  obtain ⟨u, hu, hbs⟩ := hc (n - 1) (by omega)
  obtain ⟨x, hxx⟩ : ∃ x, x = L.getD (n - 1) [] := ⟨_, rfl⟩
  rw [← hxx] at hbs ⊢
  have hx3 : x.length ≤ 300 := hx x (by rw [hxx]; simp [List.getD, show n - 1 < L.length by omega])
  obtain ⟨hd, hhd⟩ : ∃ hd, hd = p.head := ⟨_, rfl⟩
  rw [← hhd] at hh ⊢
  obtain ⟨D, hD⟩ : ∃ D, D = bd (hd - 1) x := ⟨_, rfl⟩
  have HDG : Hid (∀ w', Grow W w' → Calls Tryd.prog 13 #[.int .i64 (hd - 1), u] w' fun e w'' => e = .returned (dkey D) ∧ Grow w' w'') := fun w' k => by
    rw [hD]; exact rdig_any (hbs.but (HG.out.trans k) (fun _ _ _ h => h)) (by omega)
  have HDL : Hid (D.length = 32) := by show _ = _; rw [hD]; exact bd_len _ _
  rw [← hD]
  obtain ⟨DN, hDN⟩ : ∃ DN, DN = (u8s D).toArray := ⟨_, rfl⟩
  rw [show dkey D = .agg DN by rw [hDN]; rfl] at HDG ⊢
  have HDN := Hid.mk' hDN
  obtain ⟨ua, un, uc, rfl⟩ := hbs.sl
  obtain ⟨q, hq⟩ : ∃ q, q = n - 1 := ⟨_, rfl⟩
  rw [← hq] at hu
  have HCU : Hid (∀ w', Grow W w' → w'.cell? ⟨b, off + q, none⟩ = some (.slice ua un uc)) := fun w' k => grow_cell (HG.out.trans k) hu
  have HCH : Hid (∀ w', Grow W w' → w'.cell? ⟨gp, 5, none⟩ = some (.int .i64 hd)) := fun w' k => by rw [hhd]; exact (HBX.out.but k (fun h => h)).cell 5
  unfold pval
  obtain ⟨N, hN⟩ : ∃ N, N = (pcells p pv).toArray := ⟨_, rfl⟩
  rw [← hN] at HEW ⊢
  have hw1 : IntKind.i64.wrap (hd - 1) = hd - 1 := wrapI (by omega) (by omega)
  have hw2 : IntKind.i64.wrap ((n : Int) - 1) = (q : Int) := by rw [wrapI (by omega) (by omega)]; omega
  have hqn : q < n := by omega
  clear hbx hW hg4 hsz hgW hn hps hvg hc hu hbs hxx hx hx3 hD hDN hN hZ hq hb hhd
  go_enter Tryd.func24, Tryd.ntmps24
  go_upto_region 1 with fail
  rw [← HEW.out, ← HW.out, ← HGP.out, ← HG4.out]
  refine region_chain [([0, 1, 2, 3, 4, 5, 6, 7, 8, 9], 10)] [] (Grow W) (Grow W) (by kernel_rfl) (by kernel_rfl) (fun _ _ h k => h.trans k) (fun _ h => h) ((But.refl _ W).drew) ?_
  intro ι hne X hX
  have ch : ∀ z, (X z).cell? ⟨gp, 5, none⟩ = some (.int .i64 hd) := fun z => HCH.out (X z) (hX z)
  have cu : ∀ z, (X z).cell? ⟨b, off + q, none⟩ = some (.slice ua un uc) := fun z => HCU.out (X z) (hX z)
  iterate 9 (refine still_step rfl (fun K hK => ?_); go_simp; refine hK _ ?_; clear hK K)
  refine still_call rfl (.agg DN) 13 #[.int .i64 (hd - 1), .slice ua un uc] rfl (fun _ => by kernel_rfl) (fun z => HDG.out (X z) (hX z)) ?_
  intro K hK; go_simp; refine hK _ ?_; clear hK K
  refine still_nil ?_
  clear hX hne ch cu
  refine turn_run rfl rfl (fun _ w' => Blk w' g4 26 (u8s D) ∧ But (· = g4) W w') (fun _ _ => True) (fun _ w1 w2 h k => ⟨h.1.but k (fun h => h), h.2.trans (k.mono (fun _ _ h => h.elim))⟩) (fun _ _ _ => trivial) (.inl (by kernel_rfl)) ?_ ?_
  · intro w6 hw6
    exact turn_storeA (D := D) (L := Z) (v := .agg DN) i32 rfl rfl rfl (by rw [HDN.out]) HDL.out HZL.out (HB4.out.but hw6 (fun h => h)) (fun w7 hb7 hk7 => ⟨hb7, (hw6.mono (fun _ _ h => h.elim)).trans hk7⟩)
  · rintro z - Y hY
    go_simp
    refine hY _ ?_
    clear hY Y
    intro ι hne X hX
    refine still_nil ?_
    clear hX hne
    intro w7 hw7
    have HB7 := Hid.mk' hw7.1
    have HK7 := Hid.mk' hw7.2
    clear hw7
    go_wp2
    have hb9 := HB7.out
    refine bodyPost_ret (results_cell_row rfl _ _ g4 _ _ _ _ rfl hb9 ukt rfl (by rw [i32]; simp [HDL.out])) rfl ⟨by rw [HDN.out], ?_⟩
    exact HG.out.then HK7.out (fun i hi e => by have := HG4.out; have := HGP.out; omega)
/-- The rest of a row of blocks. -/
theorem Ps.drop {w : World} {b off n c cap : Nat} {A : Addr} {L : List Bk} (h : Ps w (.slice (some ⟨b, off, none⟩) n cap) L) (hc : c < n) (hA : A = ⟨b, off + c, none⟩) (c' : Nat) : Ps w (.slice (some A) (n - c) c') (L.drop c) := by
  obtain ⟨ao, cp, e, hh⟩ := h.gen
  simp only [Value.slice.injEq] at e
  obtain ⟨rfl, hl, -⟩ := e
  obtain ⟨b', off', e2, hb, hcl⟩ := hh (by omega)
  simp only [Option.some.injEq, Addr.mk.injEq, and_true] at e2
  obtain ⟨rfl, rfl⟩ := e2
  subst hA
  refine .inr ⟨by simp; omega, b, off + c, c', by simp [hl], hb, fun i hi => ?_⟩
  obtain ⟨u, h1, h2⟩ := hcl (c + i) (by simp at hi; omega)
  refine ⟨u, by rw [Nat.add_assoc]; exact h1, ?_⟩
  have : (L.drop c).getD i [] = L.getD (c + i) [] := by simp [List.getD]
  rw [this]; exact h2
theorem Ps.take {w : World} {b n k cap c' : Nat} {L : List Bk} (h : Ps w (.slice (some ⟨b, 0, none⟩) n cap) L) (hk : k ≤ n) : Ps w (.slice (some ⟨b, 0, none⟩) k c') (L.take k) := by
  by_cases h0 : k = 0
  · subst h0; exact .inl ⟨by simp, .inr ⟨_, _, rfl⟩⟩
  · obtain ⟨ao, cp, e, hh⟩ := h.gen
    simp only [Value.slice.injEq] at e
    obtain ⟨rfl, hl, -⟩ := e
    obtain ⟨b', off', e2, hb, hcl⟩ := hh (by omega)
    simp only [Option.some.injEq, Addr.mk.injEq, and_true] at e2
    obtain ⟨rfl, rfl⟩ := e2
    refine .inr ⟨by simp; omega, b, 0, c', by simp; omega, hb, fun i hi => ?_⟩
    have hi' : i < k := by simp at hi; omega
    obtain ⟨u, h1, h2⟩ := hcl i (by omega)
    refine ⟨u, h1, ?_⟩
    have : (L.take k).getD i [] = L.getD i [] := by simp [List.getD, hi']
    rw [this]; exact h2
theorem slice_hiP {b so m cap n : Nat} (hn : n ≤ cap) (w0 : World) :
    (Instr.sliceAt 45 (.slice (some ⟨b, so, none⟩) m cap) none (some (.int .i64 (n : Int))) none).run Tryd.prog w0 = .ok (.slice (some ⟨b, so, none⟩) n cap) w0 := by
  have hn' : (n : Int) ≤ (cap : Int) := by omega
  go_simp
end Go.Proofs.YtbidllclcedjbaaDoor
