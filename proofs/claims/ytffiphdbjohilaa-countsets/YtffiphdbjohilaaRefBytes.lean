/- The reference's bytes: Same, Copy, Lent, Kept. -/
import Derived.Test.YtffiphdbjohilaaBytes
import Derived.Deep.QuietTactic
import Derived.BigQuiet
import Derived.RegionTactic
namespace Go.Proofs.Ytffiphdbjohilaa
open Go.RowKit

theorem u8info : (Try.prog.info? 5).map (fun i => (i.zero, i.size, i.bytes)) = some (some (.int .u8 0), 1, 1) := by kernel_rfl

theorem take_next' (l : List Nat) (k : Nat) (h : k < l.length) : l.take (k + 1) = l.take k ++ [l.getD k 0] := by
  rw [List.take_succ_eq_append_getElem h]; simp [List.getD, List.getElem?_eq_getElem h]
theorem getD_of_eq {l m : List Nat} (h : l = m) (i : Nat) : l.getD i 0 = m.getD i 0 := by rw [h]
theorem eq_of_getD {l m : List Nat} {n : Nat} (h1 : l.length = n) (h2 : m.length = n) (h : l.take n = m.take n) : l = m := by
  rw [List.take_of_length_le (by omega), List.take_of_length_le (by omega)] at h; exact h

theorem same_lens (a0 a1 : Option Addr) (n m c0 c1 : Nat) (h : n ≠ m) (w : World) :
    Calls Try.prog 10 #[.slice a0 n c0, .slice a1 m c1] w fun e w' => e = .returned (.bool false) ∧ w' = w := by
  have h' : ¬ ((n : Int) = (m : Int)) := by omega
  go_enter Try.func10, Try.ntmps10
  go_wp2
  go_ret
  exact ⟨rfl, rfl⟩
theorem same_none (a0 a1 : Option Addr) (c0 c1 : Nat) (w : World) :
    Calls Try.prog 10 #[.slice a0 0 c0, .slice a1 0 c1] w fun e w' => e = .returned (.bool true) ∧ w' = w := by
  go_enter Try.func10, Try.ntmps10
  go_wp2
  refine wp_loop_rounds 1 ?_
  rw [rounds_succ]
  go_wp2
  go_ret
  exact ⟨rfl, rfl⟩
theorem same_some (b0 o0 c0 b1 o1 c1 n : Nat) (xs ys : List Nat) (w : World) (hx : xs.length = n) (hy : ys.length = n) (hn : n ≤ 281474976710656)
    (hc0 : ∀ i, i < n → w.cell? ⟨b0, o0 + i, none⟩ = some (.int .u8 (xs.getD i 0 : Nat))) (hc1 : ∀ i, i < n → w.cell? ⟨b1, o1 + i, none⟩ = some (.int .u8 (ys.getD i 0 : Nat))) :
    Calls Try.prog 10 #[.slice (some ⟨b0, o0, none⟩) n c0, .slice (some ⟨b1, o1, none⟩) n c1] w fun e w' => e = .returned (.bool (decide (xs = ys))) ∧ ∃ d, w' = w.drewN d := by
  have HX : Hid (xs.length = n) := hx
  have HY : Hid (ys.length = n) := hy
  have H0 : Hid (∀ i, i < n → w.cell? ⟨b0, o0 + i, none⟩ = some (.int .u8 (xs.getD i 0 : Nat))) := hc0
  have H1 : Hid (∀ i, i < n → w.cell? ⟨b1, o1 + i, none⟩ = some (.int .u8 (ys.getD i 0 : Nat))) := hc1
  clear hx hy hc0 hc1
  go_enter Try.func10, Try.ntmps10
  go_wp2
  go_loopw [5] (fun i wr => ∃ k d : Nat, k ≤ n ∧ i = .int .i64 k ∧ xs.take k = ys.take k ∧ wr = w.drewN d) (fun i _ => n - (intOf i).toNat)
  case atStart => exact ⟨0, 0, Nat.zero_le _, rfl, rfl, rfl⟩
  case round =>
    obtain ⟨k, d, hk, rfl, hr, rfl⟩ := hrel
    have HR : Hid (xs.take k = ys.take k) := hr
    clear hr
    by_cases hlt : k < n
    · obtain ⟨x, hx⟩ : ∃ x, xs.getD k 0 = x := ⟨_, rfl⟩
      obtain ⟨y, hy⟩ : ∃ y, ys.getD k 0 = y := ⟨_, rfl⟩
      have f0 : w.cell? ⟨b0, o0 + k, none⟩ = some (.int .u8 (x : Nat)) := by rw [← hx]; exact H0.out k hlt
      have f1 : w.cell? ⟨b1, o1 + k, none⟩ = some (.int .u8 (y : Nat)) := by rw [← hy]; exact H1.out k hlt
      by_cases hxy : x = y
      · have HS : Hid (xs.take (k + 1) = ys.take (k + 1)) := by
          show _ = _
          rw [take_next' xs k (by rw [HX.out]; exact hlt), take_next' ys k (by rw [HY.out]; exact hlt), hx, hy, HR.out, hxy]
        clear hx hy
        subst hxy
        go_wp2
        go_quiet (fail)
        go_wp2
        go_roundw
        case rel => exact ⟨k + 1, _, by omega, by go_num, HS.out, rfl⟩
        case measure => simp [intOf]; omega
      · have hd : decide (xs = ys) = false := by
          rw [decide_eq_false_iff_not]
          intro e; exact hxy (by rw [← hx, ← hy, getD_of_eq e])
        have hxy' : ¬ ((x : Int) = (y : Int)) := by omega
        clear hx hy
        go_wp2
        go_quiet (fail)
        go_wp2
        go_ret
        exact ⟨by rw [hd]; rfl, _, World.drewN_drewN _ _ _⟩
    · have hd : decide (xs = ys) = true := by
        rw [decide_eq_true_iff]
        exact eq_of_getD HX.out HY.out (by have : k = n := by omega
                                           rw [← this]; exact HR.out)
      go_wp2
      go_ret
      exact ⟨by rw [hd]; rfl, _, rfl⟩
theorem same_any {v u : Value} {xs ys : List Nat} {w : World} (hv : Bs w v xs) (hu : Bs w u ys) :
    Calls Try.prog 10 #[v, u] w fun e w' => e = .returned (.bool (decide (xs = ys))) ∧ ∃ d, w' = w.drewN d := by
  have sh : ∀ {v : Value} {zs : List Nat}, Bs w v zs → ∃ ao cap, v = .slice ao zs.length cap := by
    rintro v zs ⟨_, _, ⟨rfl, rfl | ⟨a, cap, rfl⟩⟩ | ⟨_, b, off, cap, rfl, _⟩⟩
    · exact ⟨_, _, rfl⟩
    · exact ⟨_, _, rfl⟩
    · exact ⟨_, _, rfl⟩
  by_cases hl : xs.length = ys.length
  · obtain ⟨_, l1, c1⟩ := hv
    obtain ⟨_, l2, c2⟩ := hu
    rcases c1 with ⟨rfl, hc⟩ | ⟨h1, b, off, cap, rfl, _, _, f1⟩
    · have : ys = [] := List.eq_nil_of_length_eq_zero (by rw [← hl]; rfl)
      subst this
      obtain ⟨a0, c0, rfl⟩ : ∃ ao cap, v = .slice ao 0 cap := by rcases hc with rfl | ⟨a, cap, rfl⟩ <;> exact ⟨_, _, rfl⟩
      rcases c2 with ⟨_, hc⟩ | ⟨h2, _⟩
      · obtain ⟨a1, c1, rfl⟩ : ∃ ao cap, u = .slice ao 0 cap := by rcases hc with rfl | ⟨a, cap, rfl⟩ <;> exact ⟨_, _, rfl⟩
        exact (same_none a0 a1 c0 c1 w).mono fun e w' h => ⟨by simpa using h.1, 0, h.2⟩
      · simp at h2
    · rcases c2 with ⟨rfl, _⟩ | ⟨_, b2, off2, cap2, rfl, _, _, f2⟩
      · exfalso; rw [hl] at h1; exact Nat.lt_irrefl 0 h1
      · rw [← hl] at f2 ⊢
        exact same_some _ _ _ _ _ _ _ xs ys w rfl hl.symm l1 f1 f2
  · obtain ⟨a0, c0, rfl⟩ := sh hv
    obtain ⟨a1, c1, rfl⟩ := sh hu
    have hne : xs ≠ ys := fun e => hl (by rw [e])
    rw [decide_eq_false hne]
    exact (same_lens _ _ _ _ _ _ hl w).mono fun e w' h => ⟨h.1, 0, h.2⟩
theorem cell_new (w : World) (v : Value) (T : TypeId) : ∀ j u, [v][j]? = some u → (w.alloc (.cells #[v] T)).cell? ((⟨w.heap.size, 0, none⟩ : Addr).add j) = some u := by
  intro j u h
  rcases j with _ | j
  · simp at h; subst h; simp [go_sem]
  · simp at h
theorem cell_new3 (w : World) (x y z : Nat) (T : TypeId) : ∀ j u, (u8s [x, y, z])[j]? = some u → (w.alloc (.cells #[.int .u8 (x : Nat), .int .u8 (y : Nat), .int .u8 (z : Nat)] T)).cell? ((⟨w.heap.size, 0, none⟩ : Addr).add j) = some u := by
  intro j u h
  match j, h with
  | 0, h => simp [u8s] at h; subst h; simp [go_sem, Addr.add]
  | 1, h => simp [u8s] at h; subst h; simp [go_sem, Addr.add]
  | 2, h => simp [u8s] at h; subst h; simp [go_sem, Addr.add]
  | j + 3, h => simp [u8s] at h
/-- One byte more behind own bytes. -/
theorem Ow.push {w w' : World} {base : Nat} {v : Value} {zs : List Nat} {y : Nat} (h : Ow w base v zs) (hy : y < 256) (hl : zs.length + 1 ≤ 281474976710656) {v' : Value} (h' : w'.ownsRow base 5 1 v' (zs.length + 1) (u8s zs ++ [.int .u8 (y : Nat)])) : Ow w' base v' (zs ++ [y]) := by
  refine ⟨?_, by simpa using hl, ?_⟩
  · intro z hz
    rcases List.mem_append.1 hz with hz | hz
    · exact h.lt z hz
    · simp at hz; subst hz; exact hy
  · have e : u8s (zs ++ [y]) = u8s zs ++ [.int .u8 (y : Nat)] := by simp [u8s]
    rw [e, List.length_append]; exact h'
theorem Ow.alloc {w : World} {base : Nat} {v : Value} {zs : List Nat} (h : Ow w base v zs) (o : Obj) : Ow (w.alloc o) base v zs := ⟨h.lt, h.len, h.own.alloc o⟩

theorem copy_any {v : Value} {xs : List Nat} {w : World} (hv : Bs w v xs) (hl : xs.length ≤ 140737488355328) :
    Calls Try.prog 33 #[v] w fun e w' => ∃ v', e = .returned v' ∧ Ow w' w.heap.size v' xs ∧ Below w.heap.size w w' := by
  obtain ⟨i0, hi, hz0, hz1, hz2⟩ := info_parts u8info
  obtain ⟨hb, _, hcase⟩ := hv
  rcases hcase with ⟨rfl, hc⟩ | ⟨h0, b, off, cap, rfl, hcap, hblk, hcell⟩
  · obtain ⟨a0, c0, rfl⟩ : ∃ ao cap, v = .slice ao 0 cap := by rcases hc with rfl | ⟨a, cap, rfl⟩ <;> exact ⟨_, _, rfl⟩
    clear hc
    go_enter Try.func33, Try.ntmps33
    go_wp2_with (at_make; refine wpList_make_own _ rfl _ _ 23 rfl w.heap.size 5 i0 (.int .u8 0) 1 Try.underlying23 hi hz0 hz1 .i64 .i64 0 0 rfl rfl rfl (by simp) (by decide) (Nat.le_refl _) ?_; intro w1 hown hgrow)
    refine wp_loop_rounds 1 ?_
    rw [rounds_succ]
    go_wp2
    go_ret
    exact ⟨_, rfl, ⟨by simp, by simp, by assumption⟩, (Below.refl _ _).grown (by assumption) (Nat.le_refl _) (by simp)⟩
  · obtain ⟨n, hn⟩ : ∃ n, xs.length = n := ⟨_, rfl⟩
    rw [hn] at hl h0 hcap hcell ⊢
    have HN : Hid (xs.length = n) := hn
    have HC : Hid (∀ i, i < n → w.cell? ⟨b, off + i, none⟩ = some (.int .u8 (xs.getD i 0 : Nat))) := hcell
    have HB : Hid (∀ z ∈ xs, z < 256) := hb
    clear hn hcell hb
    go_enter Try.func33, Try.ntmps33
    go_wp2_with (at_make; refine wpList_make_own _ rfl _ _ 23 rfl w.heap.size 5 i0 (.int .u8 0) 1 Try.underlying23 hi hz0 hz1 .i64 .i64 _ n rfl rfl rfl (by rw [hz2]; omega) (by unfold maxLen; omega) (Nat.le_refl _) ?_; intro w1 hown hgrow)
    go_loopw [3, 4] (fun o i wr => ∃ k : Nat, k ≤ n ∧ i = .int .i64 k ∧ Ow wr w.heap.size o (xs.take k) ∧ Below w.heap.size w wr) (fun _ i _ => n - (intOf i).toNat)
    case atStart => exact ⟨0, Nat.zero_le _, rfl, ⟨by simp, by simp, by simpa using hown⟩, (Below.refl _ _).grown hgrow (Nat.le_refl _) (by simp)⟩
    case round =>
      obtain ⟨k, hk, rfl, ho, hbel⟩ := hrel
      have hsz := hbel.size
      by_cases hlt : k < n
      · obtain ⟨y, hy⟩ : ∃ y, xs.getD k 0 = y := ⟨_, rfl⟩
        have hkl : k < xs.length := by rw [HN.out]; exact hlt
        have HT : Hid (xs.take (k + 1) = xs.take k ++ [y]) := by rw [← hy]; exact take_next' xs k hkl
        have f : wr.cell? ⟨b, off + k, none⟩ = some (.int .u8 (y : Nat)) := by rw [← hy]; exact (hbel.cell (by exact hblk)).trans (HC.out k hlt)
        have hy1 : y < 256 := by rw [← hy]; exact HB.out _ (getD_mem xs k hkl)
        clear hy
        have hlk : (xs.take k).length = k := by rw [List.length_take]; omega
        have HO : Hid (Ow wr w.heap.size u3 (xs.take k)) := ho
        have HR : Hid (wr.ownsRow w.heap.size 5 1 u3 k (u8s (xs.take k))) := by have := ho.own; rw [hlk] at this; exact this
        clear ho
        go_wp2_with (at_builtin; refine wpList_append_own _ rfl _ _ 23 rfl w.heap.size 5 i0 (.int .u8 0) 1 1 Try.underlying23 hi hz0 hz1 hz2 rfl (by decide) _ _ _ rfl (HR.out.alloc _) ⟨wr.heap.size, 0, none⟩ 1 1 [.int .u8 (y : Nat)] rfl rfl (cell_new _ _ _) (by intro u hu; simp at hu; subst hu; rfl) (by unfold maxLen; omega) (by omega) (by simp; omega) ?_; intro v' w2 hown' hgrow' hnil')
        go_roundw
        case rel =>
          refine ⟨k + 1, by omega, by go_num, ?_, (hbel.alloc hsz _).grown (by assumption) (by simp; omega) (fun j hj => (HO.out.ge j hj).1)⟩
          rw [HT.out]
          exact HO.out.push hy1 (by rw [hlk]; omega) (by rw [hlk]; assumption)
        case measure => simp [intOf]; omega
      · have hkn : k = n := by omega
        subst hkn
        rw [List.take_of_length_le (by rw [HN.out]; omega)] at ho
        go_wp2
        go_ret
        exact ⟨_, rfl, ho, hbel⟩

theorem Bs.gen {w : World} {v : Value} {xs : List Nat} (h : Bs w v xs) : ∃ ao cap, v = .slice ao xs.length cap ∧ (ao = none → xs.length = 0 ∧ cap = 0) ∧
    ∀ ad, ao = some ad → ∀ j u, (u8s xs)[j]? = some u → w.cell? (ad.add j) = some u := by
  obtain ⟨_, _, ⟨rfl, rfl | ⟨a, cap, rfl⟩⟩ | ⟨h0, b, off, cap, rfl, hcap, _, hc⟩⟩ := h
  · exact ⟨none, 0, rfl, fun _ => ⟨rfl, rfl⟩, fun ad h => by cases h⟩
  · exact ⟨some a, cap, rfl, fun h => (by cases h), fun ad _ j u h => by simp [u8s] at h⟩
  · refine ⟨_, _, rfl, fun h => (by cases h), ?_⟩
    rintro ad ⟨⟩ j u hj
    have hjl : j < xs.length := by
      have := (List.getElem?_eq_some_iff.1 hj).1
      simpa [u8s] using this
    rw [u8s_get xs j hjl] at hj
    have e : (⟨b, off, none⟩ : Addr).add j = ⟨b, off + j, none⟩ := by simp [Addr.add]
    rw [e, hc j hjl]; exact hj
theorem Bs.cells {w : World} {ao : Option Addr} {n cap : Nat} {xs : List Nat} (h : Bs w (.slice ao n cap) xs) : ∀ ad, ao = some ad → ∀ j u, (u8s xs)[j]? = some u → w.cell? (ad.add j) = some u := by
  obtain ⟨ao', cap', e, _, h3⟩ := h.gen
  simp only [Value.slice.injEq] at e
  obtain ⟨rfl, _, _⟩ := e
  exact h3
theorem Bs.grown {w w' : World} {row : Option Nat} {v : Value} {xs : List Nat} (h : Bs w v xs) (hg : w.grownBy w' row) (hr : ∀ k, row = some k → v.ownBlock ≠ some k) : Bs w' v xs :=
  h.keep hg.size fun k e hk => hg.block k hk (fun e' => hr k e'.symm e)
theorem u8s_append (xs ys : List Nat) : u8s (xs ++ ys) = u8s xs ++ u8s ys := by simp [u8s]

theorem lent_any {v : Value} {xs : List Nat} {w : World} (hv : Bs w v xs) (hl : xs.length ≤ 140737488355328) :
    Calls Try.prog 12 #[v] w fun e w' => ∃ g, e = .returned (.slice (some ⟨g, 0, none⟩) xs.length (xs.length + 3)) ∧ w.heap.size ≤ g ∧
      Ow w' w.heap.size (.slice (some ⟨g, 0, none⟩) (xs.length + 3) (xs.length + 3)) (xs ++ [201, 202, 203]) ∧ Below w.heap.size w w' := by
  obtain ⟨i0, hi, hz0, hz1, hz2⟩ := info_parts u8info
  have HV : Hid (Bs w v xs) := hv
  obtain ⟨ao, cap, rfl, hnone, _⟩ := hv.gen
  clear hv
  obtain ⟨n, hn⟩ : ∃ n, xs.length = n := ⟨_, rfl⟩
  rw [hn] at hl hnone ⊢
  have HN : Hid (xs.length = n) := hn
  clear hn
  go_enter Try.func12, Try.ntmps12
  go_wp2_with (first
    | (at_make; refine wpList_make_own _ rfl _ _ 23 rfl w.heap.size 5 i0 (.int .u8 0) 1 Try.underlying23 hi hz0 hz1 .i64 .i64 _ (n + 3) rfl rfl (by go_num) (by rw [hz2]; omega) (by unfold maxLen; omega) (Nat.le_refl _) ?_; intro w1 hown hgrow)
    | (at_builtin; refine wpList_append_fits_any _ rfl _ _ 23 rfl w.heap.size 5 i0 1 Try.underlying23 hi hz1 w.heap.size 0 (n + 3) [] rfl hown ao n cap (u8s xs) rfl (by simp [u8s]; exact HN.out) hnone ((HV.out.grown hgrow (by simp)).cells) (u8s_one xs) (by omega) ?_; rw [Nat.zero_add]; intro w2 hown2 hgrow2)
    | (at_builtin; refine wpList_append_fits _ rfl _ _ 23 rfl w.heap.size 5 i0 1 Try.underlying23 hi hz1 w.heap.size n (n + 3) _ rfl (hown2.alloc _) ⟨w2.heap.size, 0, none⟩ 3 3 (u8s [201, 202, 203]) rfl rfl (cell_new3 _ _ _ _ _) (u8s_one _) (by omega) ?_; intro w3 hown3 hgrow3))
  go_ret
  refine ⟨w.heap.size, rfl, Nat.le_refl _, ⟨?_, by simp; rw [HN.out]; omega, ?_⟩, ?_⟩
  · intro z hz
    rcases List.mem_append.1 hz with hz | hz
    · exact HV.out.1 z hz
    · simp at hz; omega
  · rw [u8s_append, List.length_append, HN.out]
    simpa using hown3
  · have b1 := (Below.refl w.heap.size w).grown hgrow (Nat.le_refl _) (by simp)
    have s1 := b1.size
    have b2 := b1.grown hgrow2 s1 (by simp)
    exact (b2.alloc b2.size _).grown hgrow3 (by simp; have := b2.size; omega) (by simp)

theorem slice_inj {g g' n n' c c' : Nat} (h : Value.slice (some ⟨g, 0, none⟩) n c = .slice (some ⟨g', 0, none⟩) n' c') : g = g' ∧ n = n' ∧ c = c' := by
  simp at h; exact h
theorem Ow.prefix {w : World} {base g n c c' : Nat} {xs ys : List Nat} (h : Ow w base (.slice (some ⟨g, 0, none⟩) n c) (xs ++ ys)) (hc : xs.length ≤ c') : Bs w (.slice (some ⟨g, 0, none⟩) xs.length c') xs := by
  rcases h.shape with ⟨h', _⟩ | ⟨g', cap, h', hcap, _, hg, _, hcell⟩
  · cases h'
  · obtain ⟨rfl, rfl, rfl⟩ := slice_inj h'
    have hl := h.len
    rw [List.length_append] at hl hcell
    refine ⟨fun z hz => h.lt z (List.mem_append_left _ hz), by omega, ?_⟩
    by_cases h0 : xs.length = 0
    · have := List.eq_nil_of_length_eq_zero h0
      subst this
      exact .inl ⟨rfl, .inr ⟨_, _, rfl⟩⟩
    · refine .inr ⟨by omega, _, 0, _, rfl, hc, hg, fun i hi => ?_⟩
      rw [Nat.zero_add, hcell i (by omega)]
      simp [List.getD, List.getElem?_append_left hi]
theorem kept_true {v : Value} {xs : List Nat} {w : World} {base g : Nat} (hv : Bs w v xs) (hk : Ow w base (.slice (some ⟨g, 0, none⟩) (xs.length + 3) (xs.length + 3)) (xs ++ [201, 202, 203])) :
    Calls Try.prog 15 #[.slice (some ⟨g, 0, none⟩) xs.length (xs.length + 3), v] w fun e w' => e = .returned (.bool true) ∧ ∃ d, w' = w.drewN d := by
  have hl : xs.length ≤ 281474976710656 := hv.2.1
  have c0 : w.cell? ⟨g, xs.length, none⟩ = some (.int .u8 201) := by
    rcases hk.shape with ⟨h', _⟩ | ⟨g', cap, h', _, _, _, _, hcell⟩
    · cases h'
    · obtain ⟨rfl, _, _⟩ := slice_inj h'
      simpa [List.getD] using hcell xs.length (by simp)
  have c1 : w.cell? ⟨g, xs.length + 1, none⟩ = some (.int .u8 202) := by
    rcases hk.shape with ⟨h', _⟩ | ⟨g', cap, h', _, _, _, _, hcell⟩
    · cases h'
    · obtain ⟨rfl, _, _⟩ := slice_inj h'
      simpa [List.getD, List.getElem?_append_right] using hcell (xs.length + 1) (by simp)
  have c2 : w.cell? ⟨g, xs.length + 2, none⟩ = some (.int .u8 203) := by
    rcases hk.shape with ⟨h', _⟩ | ⟨g', cap, h', _, _, _, _, hcell⟩
    · cases h'
    · obtain ⟨rfl, _, _⟩ := slice_inj h'
      simpa [List.getD, List.getElem?_append_right] using hcell (xs.length + 2) (by simp)
  have hs := same_any (hk.prefix (c' := xs.length + 3) (by omega)) hv
  rw [decide_eq_true rfl] at hs
  have HS : Hid (Calls Try.prog 10 #[.slice (some ⟨g, 0, none⟩) xs.length (xs.length + 3), v] w fun e w' => e = .returned (.bool true) ∧ ∃ d, w' = w.drewN d) := hs
  obtain ⟨ao, cap, rfl, _, _⟩ := hv.gen
  clear hs hv hk
  generalize xs.length = n at *
  go_enter Try.func15, Try.ntmps15
  go_wp2_with (go_at_call 10; refine Calls.mono HS.out ?_; rintro e w' ⟨rfl, d, rfl⟩)
  go_ret
  exact ⟨rfl, _, rfl⟩
end Go.Proofs.Ytffiphdbjohilaa
