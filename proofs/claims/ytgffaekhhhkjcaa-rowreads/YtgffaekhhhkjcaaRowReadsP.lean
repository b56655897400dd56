/- Any readings of any bytes are answered as the document says; the bytes stay, and aren't kept. No condition. -/
import Derived.Test.YtgffaekhhhkjcaaRowStep
import Derived.Test.YtgffaekhhhkjcaaRecs
import Derived.ProofKit
import Derived.OpenShut
import Derived.ChangeOld
namespace Go.Proofs.Ytgffaekhhhkjcaa
open Go.ChangeShapes Go.WideShapes Go.ChangeAt Go.RowKit

theorem Ow.cut {w : World} {base g n c : Nat} {xs ys : List Nat} (h : Ow w base (.slice (some ⟨g, 0, none⟩) n c) (xs ++ ys)) : Ow w base (.slice (some ⟨g, 0, none⟩) xs.length c) xs := by
  obtain ⟨h1, h2, h3, ⟨h', _⟩ | ⟨g', cap, cur, h', hb, hh, hcap, hm, hs, ht⟩⟩ := h
  · cases h'
  · obtain ⟨rfl, _, rfl⟩ := slice_inj h'
    rw [List.length_append] at h2 hcap
    refine ⟨fun z hz => h1 z (List.mem_append_left _ hz), by omega, by simp [u8s], .inr ⟨g, c, cur, rfl, hb, hh, by omega, hm, hs, ?_⟩⟩
    have e : cur.toList.take (xs.length * 1) = (cur.toList.take ((xs ++ ys).length * 1)).take (xs.length * 1) := by
      rw [List.take_take, List.length_append]; congr 1; omega
    rw [e, ht, Nat.mul_one, u8s_append]
    exact List.take_left' (by simp [u8s])
theorem Ow.set {w : World} {base g n c j z : Nat} {xs : List Nat} (h : Ow w base (.slice (some ⟨g, 0, none⟩) n c) xs) (hz : z < 256) :
    Ow (w.setCell ⟨g, j, none⟩ (.int .u8 (z : Nat))) base (.slice (some ⟨g, 0, none⟩) n c) (xs.set j z) := by
  obtain ⟨h1, h2, h3⟩ := h
  have hn : n = xs.length := by
    obtain ⟨_, ⟨h', _⟩ | ⟨g', cap, cur, h', _⟩⟩ := h3
    · cases h'
    · exact (slice_inj h').2.1
  subst hn
  refine ⟨fun y hy => ?_, by simpa using h2, ?_⟩
  · rcases List.mem_or_eq_of_mem_set hy with hy | rfl
    · exact h1 y hy
    · exact hz
  · have := (h3.stored j (.int .u8 (z : Nat))).1
    rw [List.length_set]
    have e : (u8s xs).set j (.int .u8 (z : Nat)) = u8s (xs.set j z) := by simp [u8s, List.map_set]
    rw [e] at this
    exact this

theorem Hid.mk' {p : Prop} (h : p) : Hid p := h

set_option maxRecDepth 20000 in
set_option maxHeartbeats 2000000 in
theorem rowReads_walk (v : Value) (xs : List Nat) (sv : Value) (n : Nat) (Z : Nat → Nat → Int) (w : World) (hv : Bs w v xs ∧ xs.length ≤ 140737488351232) (hsv : Recs 2 w sv n Z) :
    Calls Try.prog 5 #[v, sv] w fun e w' => e = .returned (.bool true) ∧ Below w.heap.size w w' := by
  have HV : Hid (Bs w v xs) := hv.1
  have hl := hv.2
  obtain ⟨ao, cap, rfl, _, _⟩ := hv.1.gen
  have HS : Hid (Recs 2 w sv n Z) := hsv
  obtain ⟨sao, scap, rfl⟩ : ∃ sao scap, sv = .slice sao n scap := by
    obtain ⟨_, _, ⟨rfl, a, c, rfl⟩ | ⟨_, b, o, c, rfl, _⟩⟩ := hsv
    · exact ⟨_, _, rfl⟩
    · exact ⟨_, _, rfl⟩
  have hn := hsv.1
  clear hv hsv
  go_enter Try.func5, Try.ntmps5
  go_wp2_with fail
  refine Calls.mono (lent_any HV.out (by omega)) ?_
  rintro e w1 ⟨g, rfl, hg, hown, hb1⟩
  have HV1 : Hid (Bs w1 (.slice ao xs.length cap) xs) := HV.out.below hb1
  have HO1 : Hid (Ow w1 w.heap.size (.slice (some ⟨g, 0, none⟩) (xs.length + 3) (xs.length + 3)) (xs ++ [201, 202, 203])) := hown
  have HI1 : Hid (Bs w1 (.slice (some ⟨g, 0, none⟩) xs.length (xs.length + 3)) xs) := hown.prefix (by omega)
  have hs1 := hb1.size
  have hg1 : g < w1.heap.size := (hown.ge g rfl).2
  clear hown
  go_wp2_with fail
  refine Calls.mono (new_any HI1.out (by omega)) ?_
  rintro e w2 ⟨r, og, rfl, hr, hog, hrd2, hb2⟩
  have hs2 := hb2.size
  have HV2 : Hid (Bs w2 (.slice ao xs.length cap) xs) := HV1.out.below hb2
  have HO2 : Hid (Ow w2 w.heap.size (.slice (some ⟨g, 0, none⟩) (xs.length + 3) (xs.length + 3)) (xs ++ [201, 202, 203])) := HO1.out.but (R := fun _ => False) (But.of hb2) (fun _ _ _ h => h)
  have HR2 : Hid (Rd w2 r og xs 0) := hrd2
  clear hrd2
  go_wp2_with fail
  refine Calls.mono (kept_true HV2.out HO2.out) ?_
  rintro e w3 ⟨rfl, d, rfl⟩
  go_wp2_with fail
  refine Calls.mono (awake_any _) ?_
  rintro e w4 ⟨rfl, hb4⟩
  have hb24 : Below w2.heap.size w2 w4 := (below_drewN (Below.refl w2.heap.size w2) d).trans hb4
  have hs4 := hb24.size
  have HR4 : Hid (Rd w4 r og xs 0) := HR2.out.below hb24
  have HO4 : Hid (Ow w4 w.heap.size (.slice (some ⟨g, 0, none⟩) xs.length (xs.length + 3)) xs) := (HO2.out.but (R := fun _ => False) (But.of hb24) (fun _ _ _ h => h)).cut
  have HB4 : Hid (Below w.heap.size w w4) := (hb1.trans (hb2.mono hs1)).trans (hb24.mono (by omega))
  have hrg : r ≠ g := by omega
  have HG : Hid (∀ k, og = some k → w.heap.size ≤ k ∧ k ≠ g ∧ k ≠ r ∧ k < w4.heap.size) := fun k e => by
    have q1 := hog k e
    have q2 := HR4.out.og k e
    exact ⟨by omega, by omega, q2.1, q2.2⟩
  have hrw : w.heap.size ≤ r := by omega
  have hr4 := HR4.out.lt
  clear HV1 HV2 HO1 HO2 HI1 HR2 hb1 hb2 hb4 hb24 hog hr
  obtain ⟨L, hL⟩ : ∃ L, xs.length = L := ⟨_, rfl⟩
  have HL : Hid (xs.length = L) := hL
  rw [hL] at HV hl HO4 ⊢
  clear hL
  go_wp2
  go_loopw [7] (fun i wr => ∃ k : Nat, ∃ zs, k ≤ L ∧ i = .int .i64 k ∧ zs.length = L ∧ Ow wr w.heap.size (.slice (some ⟨g, 0, none⟩) L (L + 3)) zs ∧ But (· = g) w4 wr) (fun i _ => L - (intOf i).toNat)
  case atStart => exact ⟨0, xs, Nat.zero_le _, rfl, HL.out, HO4.out, But.refl _ _⟩
  case round =>
    obtain ⟨k, zs, hk, rfl, hzl, ho, hbut⟩ := hrel
    by_cases hlt : k < L
    · have HO : Hid (Ow wr w.heap.size (.slice (some ⟨g, 0, none⟩) L (L + 3)) zs) := ho
      obtain ⟨z, hz⟩ : ∃ z, zs.getD k 0 = z := ⟨_, rfl⟩
      have hz256 : z < 256 := by rw [← hz]; exact ho.lt _ (getD_mem _ k (by omega))
      have f1 : wr.cell? ⟨g, k, none⟩ = some (.int .u8 (z : Nat)) ∧ wr.frozen? ⟨g, k, none⟩ = false := by
        rcases ho.shape with ⟨h', _⟩ | ⟨g', c', h', _, _, _, hf, hc⟩
        · cases h'
        · obtain ⟨rfl, _, _⟩ := slice_inj h'
          rw [← hz]; exact ⟨hc k (by omega), hf k⟩
      obtain ⟨c1, c2⟩ := f1
      have HZ : Hid (zs.length = L) := hzl
      clear ho hz hzl
      go_wp2
      have e8 : ((z : Int) + 1) % 256 = (((z + 1) % 256 : Nat) : Int) := by omega
      rw [e8]
      exact ⟨⟨k + 1, zs.set k ((z + 1) % 256), by omega, by go_num, by rw [List.length_set]; exact HZ.out, HO.out.set (by omega), hbut.setCell (p := ⟨g, k, none⟩) (fun _ => rfl) _⟩, by simp [intOf]; omega⟩
    · clear ho hzl
      obtain ⟨wm, hwm⟩ : ∃ wm, wm = wr := ⟨_, rfl⟩
      subst hwm
      have hsm := hbut.size
      have HRm : Hid (Rd wm r og xs 0) := HR4.out.but hbut hrg (fun k e => (HG.out k e).2.1)
      have HBm : Hid (Below w.heap.size w wm) := HB4.out.trans (hbut.below HB4.out.size (fun k hk e => by omega))
      have HXx : Hid (Xr (wm.alloc (.cells #[.slice ao L cap, .int .i64 0, .int .i64 0] 43)) wm.heap.size (.slice ao L cap) 0 0) := heap_alloc_new _ _
      have hbx : Below wm.heap.size wm (wm.alloc (.cells #[.slice ao L cap, .int .i64 0, .int .i64 0] 43)) := (Below.refl _ _).alloc (Nat.le_refl _) _
      have HRx : Hid (Rd (wm.alloc (.cells #[.slice ao L cap, .int .i64 0, .int .i64 0] 43)) r og (rest xs 0 0) 0) := by
        have e : rest xs 0 0 = xs := by simp [rest]
        rw [e]; exact HRm.out.below hbx
      have HBx : Hid (Below w.heap.size w (wm.alloc (.cells #[.slice ao L cap, .int .i64 0, .int .i64 0] 43))) := HBm.out.trans (hbx.mono HBm.out.size)
      have HGx : Hid (∀ k, og = some k → k ≠ wm.heap.size ∧ k ≠ r ∧ w.heap.size ≤ k) := fun k e => by
        have q := HG.out k e
        exact ⟨by omega, q.2.2.1, q.1⟩
      have hrx : r < wm.heap.size := by omega
      have hwx : w.heap.size ≤ wm.heap.size := HBm.out.size
      clear hbut hbx HRm HBm HR4 HO4 HB4 HG
      go_wp2
      go_loopw [9, 10, 11, 12, 13] (fun i _ _ _ _ wr => ∃ k p : Nat, ∃ f : Int, k ≤ n ∧ i = .int .i64 k ∧ p ≤ L ∧ Xr wr wm.heap.size (.slice ao L cap) p f ∧ Rd wr r og (rest xs p f) f ∧ Below w.heap.size w wr) (fun i _ _ _ _ _ => n - (intOf i).toNat)
      case atStart => exact ⟨0, 0, 0, Nat.zero_le _, rfl, Nat.zero_le _, HXx.out, HRx.out, HBx.out⟩
      case round =>
        obtain ⟨k, p, f, hk, rfl, hp, hx, hrd, hbel⟩ := hrel
        by_cases hlt : k < n
        · obtain ⟨_, _, ⟨h0, _⟩ | ⟨_, b, off, c, e', hcap, hblk, hc⟩⟩ := HS.out
          · omega
          simp only [Value.slice.injEq] at e'
          obtain ⟨rfl, _, rfl⟩ := e'
          have f0 : wr.cell? ⟨b, off + k * 2, none⟩ = some (.int .i64 (Z k 0)) := (hbel.cell (by exact hblk)).trans (hc k 0 hlt (by decide))
          have f1 : wr.cell? ⟨b, off + k * 2 + 1, none⟩ = some (.int .i64 (Z k 1)) := by
            rw [Nat.add_assoc]; exact (hbel.cell (by exact hblk)).trans (hc k 1 hlt (by decide))
          clear hc
          have HVr : Hid (Bs wr (.slice ao L cap) xs) := HV.out.below hbel
          generalize Z k 0 = kd at *
          generalize Z k 1 = m at *
          by_cases hkd : kd.tmod 2 = 0
          case' pos =>
            obtain ⟨B, hB⟩ : ∃ B, decide (1 ≤ m ∧ m ≤ 8) = B := ⟨_, rfl⟩
            have hBr : B = true → 1 ≤ m ∧ m ≤ 8 := fun h => by rw [h] at hB; exact of_decide_eq_true hB
            have HT0 := refTake_stp (by rw [HL.out]; exact HVr.out) (by rw [HL.out]; exact hl) (by rw [HL.out]; exact hx) (by rw [HL.out]; exact hp) m B (fun h => by have := hBr h; omega)
            have hp' := stp_at (xs := xs) (n := m) (right := B) (p := p) (f := f) (by rw [HL.out]; exact hp) (fun h => by have := hBr h; omega)
            have ho8 := stp_len (xs := xs) (n := m) (right := B) (p := p) (f := f) (fun h => (hBr h).2)
            have HN0 : ∀ w', Rd w' r og (rest xs p f) f → _ := fun w' h => num_stp h m
            rw [HL.out] at HT0 hp'
            rw [hB] at HN0
            generalize (stp xs m B p f).1 = o at HT0 HN0 ho8
            generalize (stp xs m B p f).2.1 = p' at HT0 HN0 hp'
            generalize (stp xs m B p f).2.2 = f' at HT0 HN0
            have HT := Hid.mk' HT0
            have HN := Hid.mk' HN0
            clear HT0 HN0
            have hcs : (m < 1 ∧ B = false) ∨ (1 ≤ m ∧ decide (m ≤ 8) = false ∧ B = false) ∨ (1 ≤ m ∧ decide (m ≤ 8) = true ∧ B = true) := by
              by_cases h1 : m < 1
              · exact .inl ⟨h1, by rw [← hB]; exact decide_eq_false (by omega)⟩
              · by_cases h2 : m ≤ 8
                · exact .inr (.inr ⟨by omega, decide_eq_true h2, by rw [← hB]; exact decide_eq_true (by omega)⟩)
                · exact .inr (.inl ⟨by omega, decide_eq_false h2, by rw [← hB]; exact decide_eq_false (by omega)⟩)
            clear hB hBr
            rcases hcs with ⟨h1, rfl⟩ | ⟨h1, h2, rfl⟩ | ⟨h1, h2, rfl⟩
            all_goals
              go_wp2_with fail
              refine Calls.mono HT.out ?_
              rintro e w5 ⟨ao5, m5, cap5, rfl, hbs5, _, hx5, hbut5⟩
              have hrd5 := hrd.but hbut5 (by omega) (fun j e => (HGx.out j e).1)
              have hs5 := hbut5.size
              have hbel5 : Below w.heap.size w w5 := hbel.trans (hbut5.below hbel.size (fun k hk e => by omega))
              go_wp2_with fail
              refine Calls.mono (refNum_any hbs5 ho8) ?_
              rintro e w6 ⟨rfl, hw⟩
              have hw' := hw.symm
              subst hw'
              go_wp2_with fail
              refine Calls.mono (HN.out _ hrd5) ?_
              rintro e wt ⟨rfl, hrdt, hbut6⟩
              have hxt := hx5.but hbut6 (by omega)
              have hbelt : Below w.heap.size w wt := hbel5.trans (hbut6.below hbel5.size (fun k hk e => by omega))
              clear hx5 hbut6 hbel5 hrd5 hbs5 hbut5 HT HN
              go_wp2
          case' neg =>
            have HT0 := refTake_stp (by rw [HL.out]; exact HVr.out) (by rw [HL.out]; exact hl) (by rw [HL.out]; exact hx) (by rw [HL.out]; exact hp) m (decide (0 ≤ m)) (fun h => of_decide_eq_true h)
            have hp' := stp_at (xs := xs) (n := m) (right := decide (0 ≤ m)) (p := p) (f := f) (by rw [HL.out]; exact hp) (fun h => of_decide_eq_true h)
            have HN0 : ∀ w', Rd w' r og (rest xs p f) f → _ := fun w' h => take_stp h m
            rw [HL.out] at HT0 hp'
            generalize (stp xs m (decide (0 ≤ m)) p f).1 = o at HT0 HN0
            generalize (stp xs m (decide (0 ≤ m)) p f).2.1 = p' at HT0 HN0 hp'
            generalize (stp xs m (decide (0 ≤ m)) p f).2.2 = f' at HT0 HN0
            have HT := Hid.mk' HT0
            have HN := Hid.mk' HN0
            clear HT0 HN0
            go_wp2_with fail
            refine Calls.mono HT.out ?_
            rintro e w5 ⟨ao5, m5, cap5, rfl, hbs5, hge5, hx5, hbut5⟩
            have hrr := hrd.lt
            have hrd5 := hrd.but hbut5 (by omega) (fun j e => (HGx.out j e).1)
            have hs5 := hbut5.size
            have hbel5 : Below w.heap.size w w5 := hbel.trans (hbut5.below hbel.size (fun k hk e => by omega))
            have hxl := lt_of_block hx5
            have hgl : ∀ j, og = some j → j < w5.heap.size := fun j e => (hrd5.og j e).2
            go_wp2_with fail
            refine Calls.mono (HN.out _ hrd5) ?_
            rintro e w6 ⟨ao6, m6, cap6, rfl, hown6, hrd6, hbut6⟩
            have hx6 := hx5.but hbut6 (by omega)
            have hbel6 : Below w.heap.size w w6 := hbel5.trans (hbut6.below hbel5.size (fun k hk e => by omega))
            have hs6 := hbut6.size
            have hbs6 : Bs w6 (.slice ao5 m5 cap5) o := hbs5.but hbut6 (fun j e _ h => by have := hge5 j e; omega)
            have HSm : Hid (Calls Try.prog 12 #[.slice ao6 m6 cap6, .slice ao5 m5 cap5] w6 fun e w' => e = .returned (.bool true) ∧ ∃ d, w' = w6.drewN d) := by
              have := same_any hown6.bs hbs6
              rw [decide_eq_true rfl] at this
              exact this
            clear hx5 hbut6 hbel5 hrd5 hbs5 hbut5 HT HN hbs6
            have hcs : (m6 = 0) ∨ (∃ h z : Nat, 0 < m6 ∧ ao6 = some ⟨h, 0, none⟩ ∧ m6 ≤ cap6 ∧ w5.heap.size ≤ h ∧ z < 256 ∧ w6.cell? ⟨h, 0, none⟩ = some (.int .u8 (z : Nat)) ∧ w6.frozen? ⟨h, 0, none⟩ = false) := by
              rcases hown6.shape with ⟨e, _⟩ | ⟨h, c, e, hcp, hh, _, hfz, hcl⟩
              · simp only [Value.slice.injEq] at e
                exact .inl e.2.1
              · simp only [Value.slice.injEq] at e
                obtain ⟨rfl, rfl, rfl⟩ := e
                by_cases h0 : o.length = 0
                · exact .inl h0
                · exact .inr ⟨h, o.getD 0 0, by omega, rfl, hcp, hh, hown6.lt _ (getD_mem _ 0 (by omega)), hcl 0 (by omega), hfz 0⟩
            clear hown6
            rcases hcs with rfl | ⟨h, z, hm6, rfl, hcp6, hh, hz, hc6, hf6⟩
            case' inl =>
              go_wp2_with fail
              refine Calls.mono HSm.out ?_
              rintro e w7 ⟨rfl, d, rfl⟩
              go_wp2
              have hrdt := hrd6.drewN d
              have hxt := hx6.but (R := fun _ => False) (But.of (below_drewN (Below.refl _ _) d)) (fun h => h)
              have hbelt := below_drewN hbel6 d
              generalize w6.drewN d = wt at hrdt hxt hbelt ⊢
            case' inr =>
              have hm6' : (0 : Int) < (m6 : Int) := by omega
              go_wp2_with fail
              refine Calls.mono HSm.out ?_
              rintro e w7 ⟨rfl, d, rfl⟩
              go_wp2
              have hbt : But (· = h) w6 ((w6.drewN d).setCell ⟨h, 0, none⟩ (.int .u8 (((z : Int) + 1) % 256))) := (But.of (R := (· = h)) (below_drewN (Below.refl w6.heap.size w6) d)).setCell (p := ⟨h, 0, none⟩) (fun _ => rfl) _
              have hrdt := hrd6.but hbt (by omega) (fun j e => by have := hgl j e; omega)
              have hxt := hx6.but hbt (by omega)
              have hbelt : Below w.heap.size w _ := hbel6.trans (hbt.below hbel6.size (fun k hk e => by omega))
              clear hbt
              generalize (w6.drewN d).setCell ⟨h, 0, none⟩ (.int .u8 (((z : Int) + 1) % 256)) = wt at hrdt hxt hbelt ⊢
          all_goals
            clear HVr
            have HQ1 : Hid (∀ d, Calls Try.prog 19 #[.pointer (some ⟨r, 0, none⟩)] (wt.drewN d) fun e w' => e = .returned (.int .i64 ((rest xs p' f').length : Nat)) ∧ w' = wt.drewN d) := fun d => left_any (hrdt.drewN d)
            have HQ2 : Hid (∀ d, Calls Try.prog 22 #[.pointer (some ⟨wm.heap.size, 0, none⟩)] (wt.drewN d) fun e w' => e = .returned (.int .i64 ((rest xs p' f').length : Nat)) ∧ ∃ m, w' = (wt.drewN d).drewN m) := fun d => refLeft_stp (cap := cap) (ao := ao) (by rw [HL.out]; exact hxt.but (R := fun _ => False) (But.of (below_drewN (Below.refl _ _) d)) (fun h => h)) (by rw [HL.out]; exact hp') (by rw [HL.out]; exact hl)
            have HQ3 : Hid (∀ d, Calls Try.prog 23 #[.pointer (some ⟨r, 0, none⟩)] (wt.drewN d) fun e w' => e = .returned (.int .i64 f') ∧ w' = wt.drewN d) := fun d => fault_any (hrdt.drewN d)
            have HQ4 : Hid (∀ d, Calls Try.prog 18 #[.pointer (some ⟨r, 0, none⟩)] (wt.drewN d) fun e w' => e = .returned (.int .i64 (if f' = 0 then (if (rest xs p' f').length = 0 then 0 else 4) else f')) ∧ w' = wt.drewN d) := fun d => end_any (hrdt.drewN d)
            have HQ5 : Hid (∀ d, Calls Try.prog 24 #[.pointer (some ⟨wm.heap.size, 0, none⟩)] (wt.drewN d) fun e w' => e = .returned (.int .i64 (if f' = 0 then (if (rest xs p' f').length = 0 then 0 else 4) else f')) ∧ ∃ m, w' = (wt.drewN d).drewN m) := fun d => refEnd_stp (cap := cap) (ao := ao) (by rw [HL.out]; exact hxt.but (R := fun _ => False) (But.of (below_drewN (Below.refl _ _) d)) (fun h => h)) (by rw [HL.out]; exact hp') (by rw [HL.out]; exact hl)
            have hcf : wt.cell? ⟨wm.heap.size, 2, none⟩ = some (.int .i64 f') := hxt.cells.2.2.1
            generalize (if f' = 0 then (if (rest xs p' f').length = 0 then (0 : Int) else 4) else f') = E at HQ4 HQ5
            have HXt := Hid.mk' hxt
            have HRt := Hid.mk' hrdt
            clear hxt hrdt
            generalize (rest xs p' f').length = q at HQ1 HQ2
            go_quiet (first
              | (go_at_call 19; refine Calls.quiet_of_same (HQ1.out _))
              | (go_at_call 22; refine Calls.quiet_of (HQ2.out _))
              | (go_at_call 23; refine Calls.quiet_of_same (HQ3.out _))
              | (go_at_call 18; refine Calls.quiet_of_same (HQ4.out _))
              | (go_at_call 24; refine Calls.quiet_of (HQ5.out _)))
            go_wp2
            go_roundw
            case rel => exact ⟨k + 1, p', f', by omega, by go_num, hp', HXt.out.but (R := fun _ => False) (But.of (below_drewN (Below.refl _ _) _)) (fun h => h), HRt.out.drewN _, below_drewN hbelt _⟩
            case measure => simp [intOf]; omega
        · go_wp2
          go_ret
          exact ⟨rfl, hbel⟩

set_option maxRecDepth 100000 in
theorem rowReads_lifted (os : Os) (started : os.Started) (H : Type) (enc : TypeId × Value → H) :
    ReturnsInHanded {} Try.checked os 5 .any (Rows.rowReadsSpec.pre6 enc Try.prog Try.f5 Rows.rowReadsRow.domain false) (Rows.rowReadsSpec.post enc Try.prog Try.f5 false true false false) := by
  refine returnsInHanded_of_change_sized (C := Try.checked) (by kernel_rfl) started (by kernel_rfl) Try.func5
    (ChangeSpec.witness6 (enc := enc) (C := Try.checked) false ⟨#[], #[.slice none 0 0, .slice none 0 0], []⟩ 8 (by kernel_rfl) (by kernel_rfl) (by kernel_rfl) (by kernel_rfl)) ?_
  intro W base args ds gs before hval0 hW hcnd hsz0 _
  have hsz : (DataW.weightsEach Try.prog (Try.f5.params.toList ++ Rows.rowReadsSpec.plain.varTypes Try.prog) (ds ++ gs)).all (· ≤ reachBytes) = true := hsz0
  clear hsz0
  have hval : ∀ (j : Nat) t v, Try.f5.params[j]? = some t → args[j]? = some v → Value.okWide Try.prog W .any base t v := hval0
  have hW' := hW
  obtain ⟨p, q, hA0, hV, rfl, hfz, hnd⟩ := hW
  have hA : DataW.TrodAll enc Try.prog W 0 (fun _ => true) true Try.f5.params.toList args.toList ds p := hA0
  rw [Try.params5] at hA hval hsz
  obtain ⟨v0, vs0, d0, ds0, p0, q0, hargs, rfl, rfl, h0, r0⟩ := trodAll_cons hA
  obtain ⟨v1, vs1, d1, ds1, p1, q1, rfl, rfl, rfl, h1, r1⟩ := trodAll_cons r0
  obtain ⟨rfl, rfl, rfl⟩ := trodAll_nil r1
  obtain rfl : args = #[v0, v1] := by cases args; simp_all
  obtain ⟨rfl, rfl⟩ := trodVars_none hV
  have lt0 : ∀ x ∈ p0, x.block < W.heap.size := by obtain ⟨m, hm⟩ := h0; exact DataW.trod_lt m _ _ _ hm
  obtain ⟨z0, w0⟩ := view_bytes Try.underlying22 Try.underlying5 (by kernel_rfl) (by kernel_rfl) (hval 0 22 v0 rfl rfl) h0 lt0 hsz (j := 0) rfl rfl
  have lt1 : ∀ x ∈ p1, x.block < W.heap.size := by obtain ⟨m, hm⟩ := h1; exact DataW.trod_lt m _ _ _ hm
  obtain ⟨n1, z1, w1⟩ := view_recs (k := 2) Try.underlying40 Try.underlying45 rfl (by decide) (by kernel_rfl) (of_decide_eq_true (by kernel_rfl)) (by intro j f hf; rcases j with _ | _ | j <;> simp at hf <;> subst hf <;> exact ⟨rfl, by kernel_rfl, by kernel_rfl⟩) (hval 1 40 v1 rfl rfl) h1 lt1 hsz (j := 1) rfl rfl
  clear hA0 hval0
  refine (rowReads_walk v0 z0 v1 n1 z1 W w0 w1).mono fun e W' ⟨he, bel⟩ => ?_
  subst he
  exact ⟨_, rfl, _, _, _, [], _, [], hW', trodAll_mk1 (shut_bool Try.underlying4 _), (trodAll_cons_mk (Below.trod (by kernel_rfl) (by kernel_rfl) (of_decide_eq_true (by kernel_rfl)) h0 bel lt0) (trodAll_cons_mk (Below.trod (by kernel_rfl) (by kernel_rfl) (of_decide_eq_true (by kernel_rfl)) h1 bel lt1) trodAll_mk0)), rfl, bel.frame _, fun h => by cases h⟩

theorem rowReads_holds : Rows.RowReadsSaid :=
  OpenClaim.holds_of_wide 5 Try.f5 rfl rfl rfl rfl rfl rfl rfl ⟨rfl, rfl, rfl, rfl, rfl⟩ rfl rfl rfl rfl rfl (by kernel_rfl) Try.func5 (by kernel_rfl)
    (of_decide_eq_true (by kernel_rfl)) (by unfold Func.isWrapper; first | (rw [if_pos (by decide +kernel)]; kernel_rfl) | (rw [if_neg (by decide +kernel)]; exact ⟨rfl, rfl⟩))
    (fun os started H enc _ => rowReads_lifted os started H enc)
#print axioms rowReads_holds
end Go.Proofs.Ytgffaekhhhkjcaa
