/- Passes stay near to one another. -/
import Derived.Test.YteapkajebhkjcaaFaPlay
namespace Go.Proofs.Yteapkajebhkjcaa
open Go.RowKit

theorem nearest_gen (neg : Bool) (m e : Nat) : Ieee.double.nearest neg m (-1074 + (e : Int)) = Ieee.double.word neg (min (rnd (m * 2 ^ e)) 9218868437227405312) := by
  have hB : Ieee.double.binade = 4503599627370496 := by decide
  have hI : Ieee.double.infRung = 9218868437227405312 := by decide
  have hL : Ieee.double.leastPlace = -1074 := by decide
  have hF : Ieee.double.fractionBits = 52 := rfl
  unfold Ieee.Format.nearest
  by_cases h0 : m = 0
  · rw [if_pos h0, h0, Nat.zero_mul]; rfl
  · rw [if_neg h0]
    simp only [hB, hI, hL, hF]
    have hp : 0 < 2 ^ e := Nat.two_pow_pos e
    have hV : m * 2 ^ e ≠ 0 := by have := Nat.mul_pos (show 0 < m by omega) hp; omega
    have hlg : (m * 2 ^ e).log2 = m.log2 + e := by
      refine log2_is ?_ ?_
      · rw [Nat.pow_add]; exact Nat.mul_le_mul_right _ (Nat.log2_self_le h0)
      · rw [show m.log2 + e + 1 = m.log2 + 1 + e by omega, Nat.pow_add]; exact Nat.mul_lt_mul_of_pos_right (Nat.lt_log2_self (n := m)) hp
    refine congrArg (fun z => Ieee.double.word neg (min z 9218868437227405312)) ?_
    unfold rnd
    rw [if_neg hV, hlg]
    generalize hk : m.log2 = k at *
    rcases (by omega : k + e < 52 ∨ (52 ≤ k + e ∧ k ≤ 52) ∨ 52 < k) with h1 | ⟨h1, h2⟩ | h1
    · have e1 : max (-1074 + (e : Int) + (k : Int) - ((52 : Nat) : Int)) (-1074) = -1074 := by omega
      rw [e1, show (-1074 + (e : Int) - -1074).toNat = e by omega, show (-1074 - (-1074 + (e : Int))).toNat = 0 by omega, cut_eq _ _ _ (by omega), rhe_zero, show k + e - 52 = 0 by omega, rhe_zero, Nat.shiftLeft_eq]
      simp
    · have e1 : max (-1074 + (e : Int) + (k : Int) - ((52 : Nat) : Int)) (-1074) = -1074 + ((k + e - 52 : Nat) : Int) := by omega
      rw [e1, show (-1074 + (e : Int) - (-1074 + ((k + e - 52 : Nat) : Int))).toNat = 52 - k by omega, show (-1074 + ((k + e - 52 : Nat) : Int) - (-1074 + (e : Int))).toNat = 0 by omega, cut_eq _ _ _ (by omega), rhe_zero, Nat.shiftLeft_eq, show (-1074 + ((k + e - 52 : Nat) : Int) - -1074).toNat = k + e - 52 by omega]
      congr 1
      have e2 : m * 2 ^ e = m * 2 ^ (52 - k) * 2 ^ (k + e - 52) := by rw [Nat.mul_assoc, ← Nat.pow_add, show 52 - k + (k + e - 52) = e by omega]
      rw [e2]
      have := rhe_scale (m * 2 ^ (52 - k)) 0 (k + e - 52)
      rw [Nat.zero_add, rhe_zero] at this
      exact this.symm
    · have e1 : max (-1074 + (e : Int) + (k : Int) - ((52 : Nat) : Int)) (-1074) = -1074 + ((k + e - 52 : Nat) : Int) := by omega
      rw [e1, show (-1074 + (e : Int) - (-1074 + ((k + e - 52 : Nat) : Int))).toNat = 0 by omega, show (-1074 + ((k + e - 52 : Nat) : Int) - (-1074 + (e : Int))).toNat = k - 52 by omega, Nat.shiftLeft_zero, cut_eq _ _ _ (by omega), show (-1074 + ((k + e - 52 : Nat) : Int) - -1074).toNat = k + e - 52 by omega, show k + e - 52 = (k - 52) + e by omega, rhe_scale]
theorem vl_int (c : Nat) (hc : c < 9007199254740992) : ∃ (k r : Nat), k = 1074 ∧ vl r = c * 2 ^ k := by
  obtain ⟨k, hk⟩ : ∃ k, k = 1074 := ⟨_, rfl⟩
  obtain ⟨r, hr⟩ := vl_rep (m := c) (k := k) hc
  exact ⟨k, r, hk, hr⟩
theorem vl_hi (k : Nat) (hk : k = 1074) : vl 4652218415073722368 = 1024 * 2 ^ k := by
  obtain ⟨j, hj⟩ : ∃ j, j = 1032 := ⟨_, rfl⟩
  have h1 := vl_norm j 0 (by decide)
  rw [show (j + 1) * 4503599627370496 + 0 = 4652218415073722368 by omega] at h1
  rw [h1, show k = 42 + j by omega, Nat.pow_add, ← Nat.mul_assoc, Nat.add_zero]
theorem vl_C (k : Nat) (hk : k = 1074) : vl 4652222813120233472 = 1025 * 2 ^ k := by
  obtain ⟨j, hj⟩ : ∃ j, j = 1032 := ⟨_, rfl⟩
  have h1 := vl_norm j 4398046511104 (by decide)
  rw [show (j + 1) * 4503599627370496 + 4398046511104 = 4652222813120233472 by omega] at h1
  rw [h1, show k = 42 + j by omega, Nat.pow_add, ← Nat.mul_assoc]
theorem vl_infk (k : Nat) (hk : k = 1074) : 1000000 * 2 ^ k < vl 9218868437227405312 := by
  obtain ⟨e, he⟩ : ∃ e, e = 2046 := ⟨_, rfl⟩
  have h1 := vl_norm e 0 (by decide)
  rw [show (e + 1) * 4503599627370496 + 0 = 9218868437227405312 by omega] at h1
  rw [h1]
  exact Nat.mul_lt_mul_of_lt_of_le (by decide) (Nat.pow_le_pow_right (by decide) (by omega)) (Nat.two_pow_pos _)
/-- A sum is not beyond the whole number that its parts don't reach beyond. -/
theorem fad_int {a d c k : Nat} (hc : c < 9007199254740992) (h : vl a + vl d ≤ c * 2 ^ k) (ha : a < 9218868437227405312) (hd : d < 9218868437227405312) : vl (fad a d) ≤ c * 2 ^ k := by
  obtain ⟨r, hr⟩ := vl_rep (m := c) (k := k) hc
  unfold fad
  rw [if_neg (by omega), ← hr]
  rw [← hr] at h
  have := rnd_mono h
  rw [rnd_vl] at this
  exact vl_le (by omega)
theorem fad_ge {a d : Nat} (ha : a ≤ 9218868437227405312) : a ≤ fad a d := by
  by_cases h : a = 9218868437227405312 ∨ d = 9218868437227405312
  · unfold fad; rw [if_pos h]; exact ha
  · unfold fad
    rw [if_neg h]
    have := rnd_mono (Nat.le_add_right (vl a) (vl d))
    rw [rnd_vl] at this
    omega
/-- Two that are awake are near to one another; nobody is far. -/
structure Nr (T : List Sh) (m : Nat) : Prop where
  near : ∀ i j, awk T i = true → awk T j = true → pat T i ≤ fad (pat T j) 4652218415073722368
  far : ∀ i, ∃ k, k = 1074 ∧ vl (pat T i) ≤ 1024 * m * 2 ^ k
theorem awk_set {T : List Sh} {k j : Nat} {t : Sh} (hk : k < T.length) : awk (T.set k t) j = if k = j then t.a else awk T j := by
  unfold awk
  rw [List.getElem?_set]
  by_cases h : k = j
  · subst h; rw [if_pos rfl, if_pos hk, if_pos rfl]; rfl
  · rw [if_neg h, if_neg h]
theorem pat_set {T : List Sh} {k j : Nat} {t : Sh} (hk : k < T.length) : pat (T.set k t) j = if k = j then t.p else pat T j := by
  unfold pat
  rw [List.getElem?_set]
  by_cases h : k = j
  · subst h; rw [if_pos rfl, if_pos hk, if_pos rfl]; rfl
  · rw [if_neg h, if_neg h]
section
variable {T : List Sh} {m : Nat}
theorem Nr.fin (h : Nr T m) (hm : m ≤ 400) (i : Nat) : pat T i < 9218868437227405312 := by
  obtain ⟨k, hk, h1⟩ := h.far i
  rw [← vl_lt_iff]
  have h2 := vl_infk k hk
  have h3 : 1024 * m * 2 ^ k ≤ 1000000 * 2 ^ k := Nat.mul_le_mul_right _ (by omega)
  omega
theorem Nr.up (h : Nr T m) : Nr T (m + 1) := ⟨h.near, fun i => by
  obtain ⟨k, hk, h1⟩ := h.far i
  exact ⟨k, hk, Nat.le_trans h1 (Nat.mul_le_mul_right _ (by omega))⟩⟩
theorem Nr.step (h : Nr T m) (hm : m ≤ 400) {i d : Nat} (hd : d ≤ 4652218415073722368) : ∃ k, k = 1074 ∧ vl (fad (pat T i) d) ≤ 1024 * (m + 1) * 2 ^ k := by
  obtain ⟨k, hk, h1⟩ := h.far i
  refine ⟨k, hk, fad_int (by omega) ?_ (h.fin hm i) (by omega)⟩
  have h2 := vl_le hd
  rw [vl_hi k hk] at h2
  have h3 : 1024 * (m + 1) * 2 ^ k = 1024 * m * 2 ^ k + 1024 * 2 ^ k := by rw [Nat.mul_add, Nat.mul_one, Nat.add_mul]
  omega
/-- Only a weight is turned, or somebody sleeps. -/
theorem Nr.less {T' : List Sh} (h : Nr T m) (ha : ∀ j, awk T' j = true → awk T j = true) (hp : ∀ j, pat T' j = pat T j) : Nr T' m := ⟨fun i j hi hj => by rw [hp, hp]; exact h.near i j (ha i hi) (ha j hj), fun i => by rw [hp]; exact h.far i⟩
theorem Nr.wgt (h : Nr T m) (i : Int) (x : Nat) : Nr (wgt T i x) m := by
  unfold Go.Proofs.Yteapkajebhkjcaa.wgt
  cases hr : inR T i with
  | false => exact h
  | true =>
    obtain ⟨k, t, rfl, ht, hk⟩ := inR_iff hr
    rw [if_pos rfl, Int.toNat_natCast]
    refine h.less (fun j hj => ?_) (fun j => ?_)
    · rw [awk_set hk] at hj
      split at hj
      · rename_i e; rw [← e]; exact hj
      · exact hj
    · rw [pat_set hk]
      split
      · rename_i e; rw [← e]
      · rfl
theorem Nr.slp (h : Nr T m) (i : Int) : Nr (slp T i) m := by
  unfold Go.Proofs.Yteapkajebhkjcaa.slp
  cases hr : inR T i with
  | false => exact h
  | true =>
    obtain ⟨k, t, rfl, ht, hk⟩ := inR_iff hr
    rw [if_pos rfl, Int.toNat_natCast]
    refine h.less (fun j hj => ?_) (fun j => ?_)
    · rw [awk_set hk] at hj
      split at hj
      · cases hj
      · exact hj
    · rw [pat_set hk]
      split
      · rename_i e; rw [← e]
      · rfl
theorem aw_mem {j : Nat} (h : awk T j = true) : j ∈ awN T := by
  unfold awN awU
  rw [List.mem_filter, List.mem_range]
  refine ⟨?_, h⟩
  unfold awk at h
  cases e : T[j]? with
  | none => rw [e] at h; cases h
  | some t => exact (List.getElem?_eq_some_iff.1 e).1
theorem mnf_least (hok : Fok T) {j : Nat} (h : awk T j = true) : (pss T).isEmpty = false ∧ mnf (pss T) ≤ pat T j := by
  have h1 : pat T j ∈ pss T := List.mem_map.2 ⟨j, aw_mem h, rfl⟩
  have h2 : (pss T).isEmpty = false := by
    cases e : pss T with
    | nil => rw [e] at h1; cases h1
    | cons a l => rfl
  refine ⟨h2, ?_⟩
  have h3 := (mnf_le (pss T)).1 _ h1
  rw [rk_pos (mnf_pos hok h2).2, rk_pos (hok.pat j)] at h3
  omega
theorem Nr.wak (h : Nr T m) (hok : Fok T) (hm : m ≤ 400) (i : Int) : Nr (wak T i) (m + 1) := by
  cases hr : inR T i with
  | false => unfold Go.Proofs.Yteapkajebhkjcaa.wak; rw [hr]; exact h.up
  | true =>
    obtain ⟨k, ⟨tw, tp, ta⟩, rfl, ht, hk⟩ := inR_iff hr
    rw [wak_at hr ht]
    unfold wkT
    cases ta with
    | true => exact h.up
    | false =>
      dsimp only
      rw [if_neg (by decide)]
      have hpk : pat T k = tp := pat_of ht
      have htp : tp ≤ 9218868437227405312 := by rw [← hpk]; exact hok.pat k
      cases he : (pss T).isEmpty with
      | true =>
        rw [if_pos rfl]
        have hno : ∀ j, awk T j = true → False := fun j hj => by
          have := (mnf_least hok hj).1
          rw [he] at this
          cases this
        refine ⟨fun a b ha hb => ?_, fun a => ?_⟩
        · rw [awk_set hk] at ha hb
          have ea : k = a := by
            apply Classical.byContradiction
            intro hn
            rw [if_neg hn] at ha
            exact hno a ha
          have eb : k = b := by
            apply Classical.byContradiction
            intro hn
            rw [if_neg hn] at hb
            exact hno b hb
          rw [← ea, ← eb, pat_set hk, if_pos rfl]
          exact fad_ge htp
        · rw [pat_set hk]
          split
          · dsimp only; rw [← hpk]; exact h.up.far k
          · exact h.up.far a
      | false =>
        rw [if_neg (by decide)]
        obtain ⟨hmem, hfle⟩ := mnf_pos hok he
        generalize hf : mnf (pss T) = f at *
        obtain ⟨c, hc, hcf⟩ := List.mem_map.1 hmem
        have hcw : awk T c = true := (awU_lt hc).2
        have hff : f ≤ fad f 4652218415073722368 := fad_ge hfle
        obtain ⟨hy1, hy2⟩ := cl_pos htp hfle (fad_le f 4652218415073722368) hff
        generalize cl tp f (fad f 4652218415073722368) = y at *
        have hyl : y ≤ 9218868437227405312 := Nat.le_trans hy2 (fad_le _ _)
        have hlow : ∀ j, awk T j = true → f ≤ pat T j ∧ pat T j ≤ fad f 4652218415073722368 := fun j hj => by
          refine ⟨by rw [← hf]; exact (mnf_least hok hj).2, ?_⟩
          rw [← hcf]
          exact h.near j c hj hcw
        refine ⟨fun a b ha hb => ?_, fun a => ?_⟩
        · rw [awk_set hk] at ha hb
          rw [pat_set hk, pat_set hk]
          by_cases ea : k = a
          · rw [if_pos ea]
            by_cases eb : k = b
            · rw [if_pos eb]; exact fad_ge hyl
            · rw [if_neg eb]
              rw [if_neg eb] at hb
              exact Nat.le_trans hy2 (fad_mono (hlow b hb).1 (Nat.le_refl _) (hok.pat b) (by decide))
          · rw [if_neg ea]
            rw [if_neg ea] at ha
            by_cases eb : k = b
            · rw [if_pos eb]
              exact Nat.le_trans (hlow a ha).2 (fad_mono hy1 (Nat.le_refl _) hyl (by decide))
            · rw [if_neg eb]
              rw [if_neg eb] at hb
              exact h.near a b ha hb
        · rw [pat_set hk]
          split
          · obtain ⟨k2, hk2, h2⟩ := h.step hm (i := c) (d := 4652218415073722368) (Nat.le_refl _)
            refine ⟨k2, hk2, Nat.le_trans (vl_le ?_) h2⟩
            rw [hcf]
            exact hy2
          · exact h.up.far a
theorem nx1_least (hok : Fok T) : ∀ (l : List Nat) (a : Nat), pat T (nx1 T l a) ≤ pat T a ∧ ∀ j ∈ l, pat T (nx1 T l a) ≤ pat T j
  | [], a => ⟨Nat.le_refl _, fun _ h => absurd h List.not_mem_nil⟩
  | b :: l, a => by
    have h0 : nx1 T (b :: l) a = nx1 T l (if ls (pat T b) (pat T a) then b else a) := rfl
    rw [h0]
    obtain ⟨h1, h2⟩ := nx1_least hok l (if ls (pat T b) (pat T a) then b else a)
    have h3 : pat T (if ls (pat T b) (pat T a) then b else a) ≤ pat T a ∧ pat T (if ls (pat T b) (pat T a) then b else a) ≤ pat T b := by
      rw [ls_pos (hok.pat b) (hok.pat a)]
      by_cases e : pat T b < pat T a
      · rw [decide_eq_true e, if_pos rfl]; omega
      · rw [decide_eq_false e, if_neg (by decide)]; omega
    refine ⟨by omega, fun j hj => ?_⟩
    rcases List.mem_cons.1 hj with e | e
    · rw [e]; omega
    · exact h2 j e
theorem Nr.nxS (h : Nr T m) (hok : Fok T) (hm : m ≤ 400) : Nr (nxS T) (m + 1) := by
  unfold Go.Proofs.Yteapkajebhkjcaa.nxS
  cases ha : awN T with
  | nil => exact h.up
  | cons a l =>
    rw [show (a :: l).isEmpty = false from rfl, if_neg (by decide)]
    have hI : nxI T = nx1 T l a := by unfold nxI; rw [ha]
    rw [hI]
    have hmem : nx1 T l a ∈ awN T := by
      rw [ha]
      rcases nx1_mem T l a with e | e
      · rw [e]; exact List.mem_cons_self
      · exact List.mem_cons_of_mem _ e
    have hle : ∀ j, awk T j = true → pat T (nx1 T l a) ≤ pat T j := fun j hj => by
      have h1 := aw_mem hj
      rw [ha] at h1
      obtain ⟨h2, h3⟩ := nx1_least hok l a
      rcases List.mem_cons.1 h1 with e | e
      · rw [e]; exact h2
      · exact h3 j e
    generalize nx1 T l a = k at *
    obtain ⟨hk, hkw⟩ := awU_lt hmem
    obtain ⟨⟨tw, tp, ta⟩, ht⟩ : ∃ t, T[k]? = some t := ⟨_, List.getElem?_eq_getElem hk⟩
    have hta : ta = true := by rw [← hkw, awk_of ht]
    have hpk : pat T k = tp := pat_of ht
    have htok := (hok.ok _ (List.mem_of_getElem? ht)).1
    have hd := (div_one htok.1 htok.2).2.1
    dsimp only at hd
    unfold nxT
    rw [ht]
    dsimp only
    rw [hta, ← hpk]
    have hpl : pat T k ≤ 9218868437227405312 := hok.pat k
    have hge : pat T k ≤ fad (pat T k) (fdv tw) := fad_ge hpl
    refine ⟨fun x y hx hy => ?_, fun x => ?_⟩
    · rw [awk_set hk] at hx hy
      rw [pat_set hk, pat_set hk]
      by_cases ex : k = x
      · rw [if_pos ex]
        by_cases ey : k = y
        · rw [if_pos ey]; exact fad_ge (fad_le _ _)
        · rw [if_neg ey]
          rw [if_neg ey] at hy
          exact fad_mono (hle y hy) hd (hok.pat y) (by decide)
      · rw [if_neg ex]
        rw [if_neg ex] at hx
        by_cases ey : k = y
        · rw [if_pos ey]
          exact Nat.le_trans (h.near x k hx hkw) (fad_mono hge (Nat.le_refl _) (fad_le _ _) (by decide))
        · rw [if_neg ey]
          rw [if_neg ey] at hy
          exact h.near x y hx hy
    · rw [pat_set hk]
      split
      · exact h.step hm hd
      · exact h.up.far x
theorem Nr.act (h : Nr T m) (hok : Fok T) (hm : m ≤ 400) (a : FA) : Nr (dact T a) (m + 1) := by
  unfold dact
  split
  · exact (h.wgt _ _).up
  · split
    · exact h.wak hok hm _
    · split
      · exact (h.slp _).up
      · split
        · exact h.up
        · exact h.nxS hok hm
theorem Nr.new (n : Nat) : Nr (fresh n) 1 := by
  have hp : ∀ j, pat (fresh n) j = 0 := fun j => by
    unfold pat fresh
    rw [List.getElem?_replicate]
    split <;> rfl
  refine ⟨fun i j hi hj => by rw [hp]; exact Nat.zero_le _, fun i => ⟨1074, rfl, ?_⟩⟩
  rw [hp]
  exact Nat.zero_le _
/-- The difference of two that are awake. -/
theorem Nr.dist (h : Nr T m) (hm : m ≤ 400) {i j : Nat} (hi : awk T i = true) (hj : awk T j = true) : vl (pat T i) ≤ vl (pat T j) + vl 4652222813120233472 := by
  obtain ⟨k, hk, h1⟩ := h.far j
  have hp : 0 < 2 ^ k := Nat.two_pow_pos k
  obtain ⟨c, hc1, hc2⟩ : ∃ c, vl (pat T j) ≤ c * 2 ^ k ∧ c * 2 ^ k < vl (pat T j) + 2 ^ k := by
    refine ⟨(vl (pat T j) + (2 ^ k - 1)) / 2 ^ k, ?_, ?_⟩
    · have h3 := Nat.div_add_mod (vl (pat T j) + (2 ^ k - 1)) (2 ^ k)
      have h4 := Nat.mod_lt (vl (pat T j) + (2 ^ k - 1)) hp
      rw [Nat.mul_comm] at h3
      generalize 2 ^ k = P at *
      omega
    · have h3 := Nat.div_mul_le_self (vl (pat T j) + (2 ^ k - 1)) (2 ^ k)
      generalize 2 ^ k = P at *
      omega
  have hcm : c ≤ 1024 * m := by
    apply Classical.byContradiction
    intro hn
    have h5 : (1024 * m + 1) * 2 ^ k ≤ c * 2 ^ k := Nat.mul_le_mul_right _ (by omega)
    rw [Nat.succ_mul] at h5
    omega
  have h6 : vl (fad (pat T j) 4652218415073722368) ≤ (c + 1024) * 2 ^ k := fad_int (by omega) (by rw [vl_hi k hk, Nat.add_mul]; omega) (h.fin hm j) (by decide)
  have h7 := vl_le (h.near i j hi hj)
  rw [vl_C k hk]
  rw [Nat.add_mul] at h6
  have h8 : 1025 * 2 ^ k = 1024 * 2 ^ k + 2 ^ k := by rw [show (1025 : Nat) = 1024 + 1 from rfl, Nat.succ_mul]
  omega
end
/-- A difference that is 1025 at most. -/
theorem sub_near {a b : Nat} (ha : a < 9218868437227405312) (hb : b < 9218868437227405312) (h : vl a ≤ vl b + vl 4652222813120233472) : ∃ r, Ieee.double.sub a b = some r ∧ r < 18446744073709551616 ∧ nn r = false ∧ sm r ≤ 4652222813120233472 := by
  obtain ⟨ma, na⟩ := mg_pos (Nat.le_of_lt ha)
  obtain ⟨mb, nb⟩ := mg_pos (Nat.le_of_lt hb)
  obtain ⟨m, e, r1, v1⟩ := read_num a (by omega) (by rw [ma]; exact ha)
  obtain ⟨n, f, r2, v2⟩ := read_num b (by omega) (by rw [mb]; exact hb)
  rw [ma] at v1
  rw [mb] at v2
  unfold Ieee.Format.sub
  rw [r1, r2, na, nb]
  show ∃ r, (Ieee.Datum.sum (.number false m (-1074 + (e : Int))) (.number true n (-1074 + (f : Int)))).map Ieee.double.write = some r ∧ _
  unfold Ieee.Datum.sum
  have hmin : min (-1074 + (e : Int)) (-1074 + (f : Int)) = -1074 + ((min e f : Nat) : Int) := by omega
  simp only [hmin]
  rw [show (-1074 + (e : Int) - (-1074 + ((min e f : Nat) : Int))).toNat = e - min e f by omega, show (-1074 + (f : Int) - (-1074 + ((min e f : Nat) : Int))).toNat = f - min e f by omega]
  unfold Ieee.signed
  simp only [Bool.false_eq_true, if_false, if_true, Bool.false_and]
  obtain ⟨X, hX⟩ : ∃ X, X = m <<< (e - min e f) := ⟨_, rfl⟩
  obtain ⟨Y, hY⟩ : ∃ Y, Y = n <<< (f - min e f) := ⟨_, rfl⟩
  rw [← hX, ← hY]
  have hXv : X * 2 ^ min e f = vl a := by rw [hX, shl_scale _ _ _ (Nat.min_le_left _ _), v1]
  have hYv : Y * 2 ^ min e f = vl b := by rw [hY, shl_scale _ _ _ (Nat.min_le_right _ _), v2]
  generalize min e f = q at *
  have hw0 : ∀ z, Ieee.double.word false z = z := fun z => by unfold Ieee.Format.word; rfl
  have hw1 : ∀ z, Ieee.double.word true z = 9223372036854775808 + z := fun z => by unfold Ieee.Format.word; rfl
  refine ⟨Ieee.double.nearest (if (X : Int) + -(Y : Int) = 0 then false else decide ((X : Int) + -(Y : Int) < 0)) ((X : Int) + -(Y : Int)).natAbs (-1074 + (q : Int)), rfl, ?_⟩
  rw [nearest_gen]
  by_cases hlt : X < Y
  · have e1 : (if (X : Int) + -(Y : Int) = 0 then false else decide ((X : Int) + -(Y : Int) < 0)) = true := by
      rw [if_neg (by omega)]
      exact decide_eq_true (by omega)
    rw [e1, hw1]
    generalize rnd _ = z
    refine ⟨by omega, ?_, ?_⟩
    · rw [nn_false]; unfold mg; omega
    · unfold sm ng
      rw [decide_eq_true (by omega), if_pos rfl]
      omega
  · have e1 : (if (X : Int) + -(Y : Int) = 0 then false else decide ((X : Int) + -(Y : Int) < 0)) = false := by
      split
      · rfl
      · exact decide_eq_false (by omega)
    rw [e1, hw0, show ((X : Int) + -(Y : Int)).natAbs = X - Y by omega]
    have h5 : (X - Y) * 2 ^ q ≤ vl 4652222813120233472 := by
      rw [Nat.sub_mul, hXv, hYv]
      omega
    have h6 := rnd_mono h5
    rw [rnd_vl] at h6
    generalize rnd ((X - Y) * 2 ^ q) = z at *
    refine ⟨by omega, ?_, ?_⟩
    · rw [nn_false]; unfold mg; omega
    · unfold sm ng mg
      rw [decide_eq_false (by omega), if_neg (by decide)]
      omega
end Go.Proofs.Yteapkajebhkjcaa
