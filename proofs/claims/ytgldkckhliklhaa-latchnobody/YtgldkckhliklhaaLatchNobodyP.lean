/- Nobody waits for a latch that nobody has; when all have let go, nobody has or waits for anything: for any acts. No condition. -/
import Derived.Test.YtgldkckhliklhaaLtView
import Derived.Test.YtgldkckhliklhaaChain
import Derived.Deep.Cut
namespace Go.Proofs.Ytgldkckhliklhaa
open Go.ChangeShapes Go.WideShapes Go.ChangeAt Go.RowKit Go.Maps

/-- Each task at hand is one of the acts from lo to hi, and none of those ahead. -/
structure Tk (A : Nat → LA) (s : Ls) (lo hi : Nat) : Prop where
  of : ∀ x : Wt, x ∈ s.has ∨ x ∈ s.q → ∃ j, j < hi ∧ (A j).task = x.1
  no : ∀ x : Wt, x ∈ s.has ∨ x ∈ s.q → ∀ j, j < lo → (A j).task ≠ x.1
theorem Tk.new (A : Nat → LA) : Tk A Ls.new 0 0 := ⟨fun x h => (by rcases h with h | h <;> cases h), fun x h => (by rcases h with h | h <;> cases h)⟩
theorem Fre.mem {s s' : Ls} {t : Int} {G : List Wt} (h : Fre s t G s') {x : Wt} (hx : x ∈ s'.has ∨ x ∈ s'.q) : (x ∈ s.has ∨ x ∈ s.q) ∧ x.1 ≠ t := by
  rcases hx with hx | hx
  · rw [h.has] at hx
    rcases List.mem_append.1 hx with hx | hx
    · exact ⟨.inl (wo_mem.1 hx).1, (wo_mem.1 hx).2⟩
    · exact ⟨.inr (h.sub x hx).1, (h.sub x hx).2⟩
  · rw [h.q] at hx
    have := wo_mem.1 (List.mem_filter.1 hx).1
    exact ⟨.inr this.1, this.2⟩
section
variable {A : Nat → LA} {s s' : Ls} {lo hi : Nat} {t : Int} {G : List Wt}
theorem Tk.free (h : Tk A s 0 hi) (hf : Fre s t G s') : Tk A s' 0 (hi + 1) := ⟨fun x hx => by
  obtain ⟨j, hj, e⟩ := h.of x (Fre.mem hf hx).1
  exact ⟨j, by omega, e⟩, fun x hx j hj => absurd hj (by omega)⟩
theorem Tk.freed (h : Tk A s lo hi) (ht : t = (A lo).task) (hf : Fre s t G s') : Tk A s' (lo + 1) hi := ⟨fun x hx => h.of x (Fre.mem hf hx).1, fun x hx j hj => by
  rcases Nat.lt_succ_iff_lt_or_eq.1 hj with h1 | h1
  · exact h.no x (Fre.mem hf hx).1 j h1
  · rw [h1, ← ht]; exact fun e => (Fre.mem hf hx).2 e.symm⟩
theorem asked_mem {x y : Wt} (hx : y ∈ (s.asked x).has ∨ y ∈ (s.asked x).q) : (y ∈ s.has ∨ y ∈ s.q) ∨ y = x := by
  unfold Ls.asked Ls.askR Ls.ask at hx
  split at hx
  · exact .inl hx
  · split at hx <;> simp only [List.mem_append, List.mem_singleton] at hx
    · rcases hx with (h | h) | h
      · exact .inl (.inl h)
      · exact .inr h
      · exact .inl (.inr h)
    · rcases hx with h | h | h
      · exact .inl (.inl h)
      · exact .inl (.inr h)
      · exact .inr h
theorem Tk.asked {k : Int} {a : Bool} (h : Tk A s 0 hi) (ht : t = (A hi).task) : Tk A (s.asked (t, k, a)) 0 (hi + 1) := ⟨fun x hx => by
  rcases asked_mem hx with h1 | h1
  · obtain ⟨j, hj, e⟩ := h.of x h1
    exact ⟨j, by omega, e⟩
  · exact ⟨hi, by omega, by rw [← ht, h1]⟩, fun x hx j hj => absurd hj (by omega)⟩
theorem Tk.some (h : Tk A s 0 hi) (hok : Lok s) (hst : ∀ j, Stb s j) (hw : s.wait t = true) : ∃ j, j < hi ∧ s.hold (A j).task (s.waitK t) ≠ 0 := by
  unfold Ls.wait at hw
  rw [List.any_eq_true] at hw
  obtain ⟨x, hx, e⟩ := hw
  have e : x.1 = t := by simpa using e
  have hk := (hok.waitK hx).1
  rw [e] at hk
  have hxq : x ∈ s.qk (s.waitK t) := qk_mem.2 ⟨hx, hk.symm⟩
  cases hq : s.qk (s.waitK t) with
  | nil => rw [hq] at hxq; cases hxq
  | cons y r =>
    have hm := hst _ y r hq
    have hyk : y.2.1 = s.waitK t := qk_key (by rw [hq]; exact List.mem_cons_self)
    have : ∃ z ∈ s.has, z.2.1 = y.2.1 := by
      apply Classical.byContradiction
      intro hn
      rw [mayG_iff.2 (fun z hz e => absurd ⟨z, hz, e⟩ hn)] at hm
      cases hm
    obtain ⟨z, hz, e2⟩ := this
    obtain ⟨j, hj, e3⟩ := h.of z (.inl hz)
    refine ⟨j, hj, ?_⟩
    rw [e3, ← hyk, ← e2, hold_of hok hz]
    exact mode_pos z
theorem Tk.none (h : Tk A s hi hi) : (∀ t k, s.hold t k = 0) ∧ ∀ t, s.wait t = false := by
  have hn : ∀ x : Wt, ¬ (x ∈ s.has ∨ x ∈ s.q) := fun x hx => by
    obtain ⟨j, hj, e⟩ := h.of x hx
    exact h.no x hx j hj e
  refine ⟨fun t k => hold_none (fun x hx _ => absurd (.inl hx) (hn x)), fun t => ?_⟩
  unfold Ls.wait
  rw [List.any_eq_false]
  exact fun x hx => absurd (.inr hx) (hn x)
theorem hold_nn (s : Ls) (t k : Int) : 0 ≤ s.hold t k := by
  by_cases h : s.hold t k = 0
  · omega
  · obtain ⟨a, -, e⟩ := hold_inv h
    rw [e]
    split <;> decide
theorem waitK_i64 (hok : Lok s) (t : Int) : i64 (s.waitK t) := by
  unfold Ls.waitK
  cases e : s.q.find? (fun x => x.1 == t) with
  | none => show i64 0; unfold i64; omega
  | some x => exact (hok.iq x (List.mem_of_find?_eq_some e)).2
end
set_option maxRecDepth 100000 in
set_option maxHeartbeats 4000000 in
theorem latchNobody_walk (v0 : Value) (l : Nat) (A : Nat → LA) (w : World) (hv : LActs w v0 l A) : Calls Try.prog 6 #[v0] w fun e w' => e = .returned (.bool true) ∧ Below w.heap.size w w' := by
  obtain ⟨ao, cap, rfl⟩ := hv.len
  have HV := Hid.mk' hv
  have hl : (l : Int) ≤ 140737488351232 := by have := hv.1; omega
  have HN := Hid.mk' (ll_new w)
  clear hv
  go_enter Try.func6, Try.ntmps6
  go_wp2_with fail
  refine Calls.mono HN.out ?_
  rintro e w1 ⟨gt, rfl, h1⟩
  have H1 := Hid.mk' h1
  clear h1 HN
  go_wp2
  go_loopw [4, 5] (fun nv iv wr => ∃ i : Nat, i ≤ l ∧ i ≤ 80 ∧ nv = .int .i64 i ∧ iv = .int .i64 i ∧ ∃ s, Ll (fun _ => False) w wr gt s ∧ s.has.length + s.q.length ≤ i ∧ Tk A s 0 i) (fun _ iv _ => l - (intOf iv).toNat)
  case atStart => exact ⟨0, Nat.zero_le _, by decide, rfl, rfl, _, H1.out, Nat.le_refl _, Tk.new A⟩
  case round =>
    clear H1
    obtain ⟨i, hil, hi80, rfl, rfl, s, hL, hs, htk⟩ := hrel
    by_cases hlt : i < l ∧ i < 80
    · have hlti : (i : Int) < (l : Int) := by omega
      have hlt2 : (i : Int) < 80 := by omega
      obtain ⟨b, off, cap', e1, hbl, hA⟩ := HV.out.at hlt.1
      simp only [Value.slice.injEq] at e1
      obtain ⟨rfl, -, rfl⟩ := e1
      obtain ⟨⟨hok1, hok2, hok3⟩, hcell⟩ := hA i hlt.1
      have HOK2 := Hid.mk' hok2
      have HOK3 := Hid.mk' hok3
      have HONE := Hid.mk' (lac_one (A i))
      have HAA := Hid.mk' hA
      have hwg := hL.grow
      have HCW : Hid (∀ c u, (lac (A i))[c]? = some u → wr.cell? ((⟨b, off + i * 4, none⟩ : Addr).add c) = some u) := fun c u hc => by
        rw [addr_add]; exact grow_cell hwg (hcell c u hc)
      obtain ⟨g, hg⟩ : ∃ g, g = wr.heap.size := ⟨_, rfl⟩
      have HG := Hid.mk' hg
      have HAL : Hid (Grow wr (wr.alloc (.cells #[.int .i64 0, .int .i64 0, .int .i64 0, .bool false] 30))) := (But.refl _ wr).alloc _
      have HBZ : Hid (Blk (wr.alloc (.cells #[.int .i64 0, .int .i64 0, .int .i64 0, .bool false] 30)) g 30 [.int .i64 0, .int .i64 0, .int .i64 0, .bool false]) := Blk.new (L := [.int .i64 0, .int .i64 0, .int .i64 0, .bool false]) hg.symm
      have HL := Hid.mk' hL
      have HS := Hid.mk' hs
      have HTK := Hid.mk' htk
      have HLT := Hid.mk' hlt
      clear hL hs htk hA hok1 hok2 hok3 hcell hwg hbl hg hlt hil hi80
      go_upto_region 7 with (first
        | (refine wpList_load_cells rfl _ _ rfl ⟨b, off + i * 4, none⟩ rfl (lac (A i)) _ HCW.out Try.underlying30 rfl iLa ?_)
        | (refine wpList_store_at rfl _ _ _ rfl g 0 (lac (A i)) (by rw [HG.out]; rfl) rfl 30 [] [.int .i64 0, .int .i64 0, .int .i64 0, .bool false] [] (by simpa using HBZ.out) rfl rfl iLa HONE.out ?_; intro w3 hb3 hbut3; rw [List.nil_append, List.append_nil] at hb3)
        | fail)
      have HL3 : Hid (Ll (fun _ => False) w w3 gt s) := HL.out.then (HAL.out.then hbut3 (fun j hj e => by have := HG.out; omega))
      have a0 : w3.cell? ⟨g, 0, none⟩ = some (.int .i64 (A i).kind) := hb3.cell 0
      have a1 : w3.cell? ⟨g, 1, none⟩ = some (.int .i64 (A i).task) := hb3.cell 1
      have a2 : w3.cell? ⟨g, 2, none⟩ = some (.int .i64 (A i).key) := hb3.cell 2
      have a3 : w3.cell? ⟨g, 3, none⟩ = some (.bool (A i).alone) := hb3.cell 3
      have HP := Hid.mk' (pick_any (A i).kind 6 w3 (by decide) (by decide))
      obtain ⟨tk, htk⟩ : ∃ tk, tk = (A i).task := ⟨_, rfl⟩
      rw [← htk] at HOK2 a1
      have HTI := Hid.mk' htk
      clear htk
      generalize (A i).kind = kd at *
      generalize (A i).key = ky at *
      generalize (A i).alone = al at *
      rw [← HG.out]
      clear hb3 hbut3 HAL HBZ HCW HL HONE
      go_wp2_with fail
      refine Calls.mono HP.out ?_
      rintro e w' ⟨rfl, hw⟩
      have h2 := hw.symm
      subst h2
      clear hw HP
      have HF := Hid.mk' (ll_free (t := tk) HL3.out HOK2.out (by have := HS.out; omega))
      have HA := Hid.mk' (ll_ask (t := tk) (k := ky) (a := al) HL3.out HOK2.out HOK3.out (by have := HS.out; omega))
      rcases (by omega : kd % 6 < 2 ∨ ¬ kd % 6 < 2) with hp | hp
      case' inl =>
        go_wp2_with fail
        refine Calls.mono HF.out ?_
        rintro e w4 ⟨v, G, s4, rfl, hf, -, h4, -, -⟩
        have H4 := Hid.mk' h4
        have HS4 : Hid (s4.has.length + s4.q.length ≤ i + 1) := Hid.mk' (by have := hf.sum; have := HS.out; omega)
        have HT4 : Hid (Tk A s4 0 (i + 1)) := Hid.mk' (HTK.out.free hf)
        clear h4 hf
      case' inr =>
        go_wp2_with fail
        refine Calls.mono HA.out ?_
        rintro e w4 ⟨rfl, h4, -⟩
        have HS4 : Hid ((s.asked (tk, ky, al)).has.length + (s.asked (tk, ky, al)).q.length ≤ i + 1) := Hid.mk' (by have := asked_sum s (tk, ky, al); have := HS.out; omega)
        have H4 := Hid.mk' h4
        have HT4 : Hid (Tk A (s.asked (tk, ky, al)) 0 (i + 1)) := Hid.mk' (HTK.out.asked HTI.out)
        clear h4
        generalize s.asked (tk, ky, al) = s4 at *
        generalize s.got (tk, ky, al) = gx at *
        generalize s.askc (tk, ky, al) = gy at *
      all_goals
        clear HF HA HS HL3 a0 a1 a2 a3 HOK2 HOK3 hp HTK HTI
        go_wp2
        go_loopw [7] (fun kv wr => ∃ k : Nat, k ≤ i + 1 ∧ kv = .int .i64 k ∧ Grow w4 wr) (fun kv _ => i + 1 - (intOf kv).toNat)
        case atStart => exact ⟨0, Nat.zero_le _, rfl, But.refl _ _⟩
        case round =>
          obtain ⟨k, hk, rfl, hg4⟩ := hrel
          have HG4 := Hid.mk' hg4
          have HK := Hid.mk' hk
          clear hg4 hk
          by_cases hki : (k : Int) ≤ (i : Int)
          · have hkl : (k : Int) < (l : Int) := by omega
            obtain ⟨hokk, hck⟩ := HAA.out k (by omega)
            have ck1 := grow_cell HG4.out (grow_cell H4.out.grow (hck 1 _ rfl))
            have HW := Hid.mk' (ll_waits (t := (A k).task) (H4.out.then HG4.out) hokk.2.1)
            have HSOME : Hid (s4.wait (A k).task = true → ∃ j, j < i + 1 ∧ s4.hold (A j).task (s4.waitK (A k).task) ≠ 0) := Hid.mk' (fun h => HT4.out.some H4.out.ok H4.out.stb h)
            clear hokk hck
            generalize s4.wait (A k).task = wq at *
            obtain ⟨kq, hkq⟩ : ∃ kq, kq = s4.waitK (A k).task := ⟨_, rfl⟩
            have HKQ : Hid (i64 kq) := Hid.mk' (by rw [hkq]; exact waitK_i64 H4.out.ok _)
            rw [← hkq] at HW HSOME
            generalize (A k).task = tk1 at *
            clear hkq
            go_wp2_with fail
            refine Calls.mono HW.out ?_
            rintro e w5 ⟨rfl, -, h5⟩
            have HG5 := Hid.mk' (HG4.out.trans h5)
            clear h5 HW HG4 ck1
            go_wp2
            go_loopw [10, 11] (fun hv jv wr => ∃ (j : Nat) (hb : Bool), j ≤ i + 1 ∧ hv = .bool hb ∧ jv = .int .i64 j ∧ Grow w4 wr ∧ (hb = true ∨ ∀ x, x < j → s4.hold (A x).task kq = 0)) (fun _ jv _ => i + 1 - (intOf jv).toNat)
            case atStart => exact ⟨0, false, Nat.zero_le _, rfl, rfl, HG5.out, .inr (fun x hx => absurd hx (by omega))⟩
            case round =>
              clear HG5
              obtain ⟨j, hb, hj, rfl, rfl, hg4, hall⟩ := hrel
              have HG4 := Hid.mk' hg4
              have HJ := Hid.mk' hj
              have HALL := Hid.mk' hall
              clear hg4 hj hall
              by_cases hji : (j : Int) ≤ (i : Int)
              · cases wq with
                | true =>
                  cases hb with
                  | true =>
                    go_wp2
                    refine ⟨⟨j + 1, true, by omega, rfl, by simp, HG4.out, .inl rfl⟩, ?_⟩
                    show i + 1 - ((j : Int) + 1).toNat < i + 1 - ((j : Int)).toNat
                    omega
                  | false =>
                    have hjl : (j : Int) < (l : Int) := by omega
                    obtain ⟨hokj, hcj⟩ := HAA.out j (by omega)
                    have cj1 := grow_cell HG4.out (grow_cell H4.out.grow (hcj 1 _ rfl))
                    have HH := Hid.mk' (ll_holds (t := (A j).task) (k := kq) (H4.out.then HG4.out) hokj.2.1 HKQ.out)
                    have hnn := hold_nn s4 (A j).task kq
                    obtain ⟨hA2, hh2⟩ : ∃ h, h = s4.hold (A j).task kq := ⟨_, rfl⟩
                    rw [← hh2] at HH hnn
                    have HH2 := Hid.mk' hh2
                    obtain ⟨tj1, htj1⟩ : ∃ t, t = (A j).task := ⟨_, rfl⟩
                    rw [← htj1] at cj1 HH
                    clear hokj hcj hh2 htj1
                    go_wp2_with fail
                    refine Calls.mono HH.out ?_
                    rintro e w6 ⟨rfl, hw⟩
                    have h2 := hw.symm
                    subst h2
                    clear hw HH
                    by_cases hpos : 0 < hA2
                    · go_wp2
                      refine ⟨⟨j + 1, true, by omega, rfl, by simp, HG4.out, .inl rfl⟩, ?_⟩
                      show i + 1 - ((j : Int) + 1).toNat < i + 1 - ((j : Int)).toNat
                      omega
                    · have HST : Hid (∀ x, x < j + 1 → s4.hold (A x).task kq = 0) := Hid.mk' (fun x hx => by
                        rcases Nat.lt_succ_iff_lt_or_eq.1 hx with h | h
                        · exact (HALL.out.resolve_left (by decide)) x h
                        · rw [h, ← HH2.out]; omega)
                      go_wp2
                      refine ⟨⟨j + 1, false, by omega, by rw [decide_eq_false (by omega)], by simp, HG4.out, .inr HST.out⟩, ?_⟩
                      show i + 1 - ((j : Int) + 1).toNat < i + 1 - ((j : Int)).toNat
                      omega
                | false =>
                  go_wp2
                  refine ⟨⟨k + 1, by omega, by simp, HG4.out⟩, ?_⟩
                  show i + 1 - ((k : Int) + 1).toNat < i + 1 - ((k : Int)).toNat
                  omega
              · cases wq with
                | true =>
                  have hb1 : hb = true := by
                    refine HALL.out.resolve_right (fun h => ?_)
                    obtain ⟨x, hx, hne⟩ := HSOME.out rfl
                    exact hne (h x (by omega))
                  subst hb1
                  go_wp2
                  refine ⟨⟨k + 1, by omega, by simp, HG4.out⟩, ?_⟩
                  show i + 1 - ((k : Int) + 1).toNat < i + 1 - ((k : Int)).toNat
                  omega
                | false =>
                  go_wp2
                  refine ⟨⟨k + 1, by omega, by simp, HG4.out⟩, ?_⟩
                  show i + 1 - ((k : Int) + 1).toNat < i + 1 - ((k : Int)).toNat
                  omega
          · have HLI := Hid.mk' (H4.out.then HG4.out)
            go_wp2
            refine ⟨⟨i + 1, by have := HLT.out; omega, by have := HLT.out; omega, by simp, by simp, s4, HLI.out, HS4.out, HT4.out⟩, ?_⟩
            show l - ((i : Int) + 1).toNat < l - ((i : Int)).toNat
            have := HLT.out
            omega
    · have HL := Hid.mk' hL
      have HS := Hid.mk' hs
      have HT := Hid.mk' htk
      have HIL := Hid.mk' hil
      have HI80 := Hid.mk' hi80
      have h80 : (i : Int) ≤ 80 := by omega
      have HCELLS : Hid (∀ k, k < i → (A k).ok ∧ ∃ b off, ao = some ⟨b, off, none⟩ ∧ ∀ wx, Grow w wx → wx.cell? ⟨b, off + k * 4 + 1, none⟩ = some (.int .i64 (A k).task) ∧ wx.cell? ⟨b, off + k * 4 + 2, none⟩ = some (.int .i64 (A k).key)) := Hid.mk' (fun k hk => by
        obtain ⟨b, off, cap', e1, hbl, hA⟩ := HV.out.at (show k < l by omega)
        simp only [Value.slice.injEq] at e1
        obtain ⟨rfl, -, rfl⟩ := e1
        exact ⟨(hA k (by omega)).1, b, off, rfl, fun wx hx => ⟨grow_cell hx ((hA k (by omega)).2 1 _ rfl), grow_cell hx ((hA k (by omega)).2 2 _ rfl)⟩⟩)
      clear hL hs htk hil
      rcases (by omega : ¬ (i : Int) < (l : Int) ∨ ((i : Int) < (l : Int) ∧ ¬ (i : Int) < 80)) with h1 | ⟨h1, h2⟩
      all_goals
        clear hlt hi80
        go_wp2
        go_loopw [12] (fun kv wr => ∃ k : Nat, k ≤ i ∧ kv = .int .i64 k ∧ ∃ s, Ll (fun _ => False) w wr gt s ∧ s.has.length + s.q.length ≤ i ∧ Tk A s k i) (fun kv _ => i - (intOf kv).toNat)
        case atStart => exact ⟨0, Nat.zero_le _, rfl, _, HL.out, HS.out, HT.out⟩
        case round =>
          clear HL HS HT
          obtain ⟨k, hk, rfl, s5, hL, hs, ht⟩ := hrel
          by_cases hki : (k : Int) < (i : Int)
          · have hkl : (k : Int) < (l : Int) := by have := HIL.out; omega
            obtain ⟨hokk, b, off, e1, hce⟩ := HCELLS.out k (by omega)
            subst e1
            have ck1 := (hce wr hL.grow).1
            have HF := Hid.mk' (ll_free (t := (A k).task) hL hokk.2.1 (by have := HI80.out; omega))
            have HS := Hid.mk' hs
            have HT := Hid.mk' ht
            obtain ⟨tk1, htk1⟩ : ∃ t, t = (A k).task := ⟨_, rfl⟩
            rw [← htk1] at ck1 HF
            have HTI := Hid.mk' htk1
            clear hokk hce hs ht hL hk htk1
            go_wp2_with fail
            refine Calls.mono HF.out ?_
            rintro e w6 ⟨v, G, s6, rfl, hf, -, h6, -, -⟩
            have H6 := Hid.mk' h6
            have HS6 : Hid (s6.has.length + s6.q.length ≤ i) := Hid.mk' (by have := hf.sum; have := HS.out; omega)
            have HT6 : Hid (Tk A s6 (k + 1) i) := Hid.mk' (HT.out.freed HTI.out hf)
            clear h6 hf HF ck1
            go_wp2
            refine ⟨⟨k + 1, by omega, by simp, s6, H6.out, HS6.out, HT6.out⟩, ?_⟩
            show i - ((k : Int) + 1).toNat < i - ((k : Int)).toNat
            omega
          · have hke : k = i := by omega
            subst hke
            have HL := Hid.mk' hL
            have HT := Hid.mk' ht
            clear hL hs ht hk hki
            go_wp2
            go_loopw [13] (fun kv wr => ∃ j : Nat, j ≤ k ∧ kv = .int .i64 j ∧ Ll (fun _ => False) w wr gt s5) (fun kv _ => k - (intOf kv).toNat)
            case atStart => exact ⟨0, Nat.zero_le _, rfl, HL.out⟩
            case round =>
              clear HL
              obtain ⟨j, hj, rfl, hL⟩ := hrel
              by_cases hjk : (j : Int) < (k : Int)
              · have hjl : (j : Int) < (l : Int) := by have := HIL.out; omega
                obtain ⟨hokk, b, off, e1, hce⟩ := HCELLS.out j (by omega)
                subst e1
                have ck1 := (hce wr hL.grow).1
                have hwt := ll_waits (t := (A j).task) hL hokk.2.1
                rw [(HT.out.none).2 (A j).task] at hwt
                have HW := Hid.mk' hwt
                have HHO : Hid (∀ w5, Ll (fun _ => False) w w5 gt s5 → Calls Try.prog 18 #[ptr gt, .int .i64 (A j).task, .int .i64 (A j).key] w5 fun e w' => e = .returned (.int .i64 0) ∧ Grow w5 w') := Hid.mk' (fun w5 h5 => by
                  have := ll_holds h5 hokk.2.1 hokk.2.2
                  rw [(HT.out.none).1] at this
                  exact this.mono (fun e w' h => ⟨h.1, by rw [h.2]; exact But.refl _ _⟩))
                have HCE := Hid.mk' hce
                generalize s5.waitK (A j).task = kq at *
                generalize (A j).task = tj1 at *
                generalize (A j).key = kj1 at *
                clear hokk hce hwt hL hj
                go_wp2_with fail
                refine Calls.mono HW.out ?_
                rintro e w6 ⟨rfl, h6, -⟩
                have H6 := Hid.mk' h6
                clear h6 HW ck1
                go_upto_region 30 with fail
                refine region_chain [] [0, 1, 2, 3, 4, 5, 6, 7, 8, 9, 10, 11, 12, 13, 14, 15] (Grow w6) (Grow w6) (by kernel_rfl) (by kernel_rfl) (fun _ _ h k => h.trans k) (fun _ h => h) ((But.refl _ w6).drew) ?_
                intro ι hne X hX
                have d0 : ∀ z, (X z).cell? ⟨b, off + j * 4 + 1, none⟩ = some (.int .i64 tj1) := fun z => (HCE.out _ (H6.out.grow.trans (hX z))).1
                have d1 : ∀ z, (X z).cell? ⟨b, off + j * 4 + 2, none⟩ = some (.int .i64 kj1) := fun z => (HCE.out _ (H6.out.grow.trans (hX z))).2
                iterate 13 (refine still_step rfl (fun K hK => ?_); go_simp; refine hK _ ?_; clear hK K)
                refine still_call rfl (.int .i64 0) 18 #[ptr gt, .int .i64 tj1, .int .i64 kj1] rfl (fun x => by kernel_rfl) (fun x => HHO.out _ (H6.out.then (hX x))) ?_
                intro K hK; go_simp; refine hK _ ?_; clear hK K
                iterate 2 (refine still_step rfl (fun K hK => ?_); go_simp; refine hK _ ?_; clear hK K)
                refine still_nil ?_
                clear hX hne d0 d1
                intro w7 hw7
                have HW7 := Hid.mk' hw7
                clear hw7
                go_wp2
                refine ⟨⟨j + 1, by omega, by simp, H6.out.then HW7.out⟩, ?_⟩
                show k - ((j : Int) + 1).toNat < k - ((j : Int)).toNat
                omega
              · have HAW := Hid.mk' (awake_any wr)
                have HG := Hid.mk' hL.grow
                clear hL hj
                go_wp2_with fail
                refine Calls.mono HAW.out ?_
                rintro e w7 ⟨rfl, h7⟩
                go_wp2
                go_ret
                exact ⟨rfl, (HG.out.trans h7).below (Nat.le_refl _) (fun _ _ h => h)⟩
set_option maxRecDepth 100000 in
theorem latchNobody_lifted (os : Os) (started : os.Started) (H : Type) (enc : TypeId × Value → H) :
    ReturnsInHanded {} Try.checked os 6 .any (Rows.latchNobodySpec.pre6 enc Try.prog Try.f6 Rows.latchNobodyRow.domain false) (Rows.latchNobodySpec.post enc Try.prog Try.f6 false true false false) := by
  refine returnsInHanded_of_change_sized (C := Try.checked) (by kernel_rfl) started (by kernel_rfl) Try.func6
    (ChangeSpec.witness6 (enc := enc) (C := Try.checked) false ⟨#[], #[.slice none 0 0], []⟩ 8 (by kernel_rfl) (by kernel_rfl) (by kernel_rfl) (by kernel_rfl)) ?_
  intro W base args ds gs before hval0 hW hcnd hsz0 _
  have hsz : (DataW.weightsEach Try.prog (Try.f6.params.toList ++ Rows.latchNobodySpec.plain.varTypes Try.prog) (ds ++ gs)).all (· ≤ reachBytes) = true := hsz0
  clear hsz0
  have hval : ∀ (j : Nat) t v, Try.f6.params[j]? = some t → args[j]? = some v → Value.okWide Try.prog W .any base t v := hval0
  have hW' := hW
  obtain ⟨p, q, hA0, hV, rfl, hfz, hnd⟩ := hW
  have hA : DataW.TrodAll enc Try.prog W 0 (fun _ => true) true Try.f6.params.toList args.toList ds p := hA0
  rw [Try.params6] at hA hval hsz
  obtain ⟨v0, vs0, d0, ds0, p0, q0, hargs, rfl, rfl, h0, r0⟩ := trodAll_cons hA
  obtain ⟨rfl, rfl, rfl⟩ := trodAll_nil r0
  obtain rfl : args = #[v0] := by cases args; simp_all
  obtain ⟨rfl, rfl⟩ := trodVars_none hV
  have lt0 : ∀ x ∈ p0, x.block < W.heap.size := by obtain ⟨m, hm⟩ := h0; exact DataW.trod_lt m _ _ _ hm
  obtain ⟨n0, z0, w0⟩ := view_lacts (hval 0 22 v0 rfl rfl) h0 lt0 hsz (j := 0) rfl rfl
  clear hA0 hval0
  refine (latchNobody_walk v0 n0 z0 W w0).mono fun e W' ⟨he, bel⟩ => ?_
  subst he
  exact ⟨_, rfl, _, _, _, [], _, [], hW', trodAll_mk1 (shut_bool Try.underlying4 _), (trodAll_cons_mk (Below.trod (by kernel_rfl) (by kernel_rfl) (of_decide_eq_true (by kernel_rfl)) h0 bel lt0) trodAll_mk0), rfl, bel.frame _, fun h => by cases h⟩

theorem latchNobody_holds : Rows.LatchNobodySaid :=
  OpenClaim.holds_of_wide 6 Try.f6 rfl rfl rfl rfl rfl rfl rfl ⟨rfl, rfl, rfl, rfl, rfl⟩ rfl rfl rfl rfl rfl (by kernel_rfl) Try.func6 (by kernel_rfl)
    (of_decide_eq_true (by kernel_rfl)) (by unfold Func.isWrapper; first | (rw [if_pos (by decide +kernel)]; kernel_rfl) | (rw [if_neg (by decide +kernel)]; exact ⟨rfl, rfl⟩))
    (fun os started H enc _ => latchNobody_lifted os started H enc)
#print axioms latchNobody_holds
end Go.Proofs.Ytgldkckhliklhaa
