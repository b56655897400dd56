/- Digests under a key, as mathematics; the program's Same. -/
import Derived.Test.YtkelfjpnjhjmoaaDoorShaOf
import Derived.Laws.BitsAllLaws
namespace Go.Proofs.YtkelfjpnjhjmoaaDoor
open Go.RowKit

/-- A key, or its digest where it is too long. -/
def keyOf (key : List Nat) : List Nat := if 64 < key.length then digest key else key
/-- A key's block. -/
def keyBlock (key : List Nat) : List Nat := keyOf key ++ List.replicate (64 - (keyOf key).length) 0
def maskBy (m : Nat) (b : List Nat) : List Nat := b.map fun x => x ^^^ m
/-- The digest of a text under a key. -/
def hmac (key text : List Nat) : List Nat := digest (maskBy 92 (keyBlock key) ++ digest (maskBy 54 (keyBlock key) ++ text))
theorem digest_lt (xs : List Nat) : ∀ z ∈ digest xs, z < 256 := by
  intro z hz
  simp only [digest, outb, List.mem_map] at hz
  obtain ⟨i, _, rfl⟩ := hz
  omega
theorem digest_len' (xs : List Nat) : (digest xs).length = 32 := by simp [digest, outb]
theorem keyOf_len (key : List Nat) : (keyOf key).length ≤ 64 := by
  unfold keyOf; split
  · rw [digest_len']; omega
  · omega
theorem keyOf_lt (key : List Nat) (h : ∀ z ∈ key, z < 256) : ∀ z ∈ keyOf key, z < 256 := by
  unfold keyOf; split
  · exact digest_lt key
  · exact h
theorem keyBlock_len (key : List Nat) : (keyBlock key).length = 64 := by
  have := keyOf_len key
  simp [keyBlock]; omega
theorem keyBlock_lt (key : List Nat) (h : ∀ z ∈ key, z < 256) : ∀ z ∈ keyBlock key, z < 256 := by
  intro z hz
  simp only [keyBlock, List.mem_append, List.mem_replicate] at hz
  rcases hz with hz | hz
  · exact keyOf_lt key h z hz
  · omega
theorem xor_byte (a b : Nat) (ha : a < 256) (hb : b < 256) : a ^^^ b < 256 := Nat.xor_lt_two_pow (n := 8) ha hb
theorem maskBy_len (m : Nat) (b : List Nat) : (maskBy m b).length = b.length := by simp [maskBy]
theorem maskBy_lt (m : Nat) (b : List Nat) (hm : m < 256) (h : ∀ z ∈ b, z < 256) : ∀ z ∈ maskBy m b, z < 256 := by
  intro z hz
  obtain ⟨x, hx, rfl⟩ := List.mem_map.1 hz
  exact xor_byte x m (h x hx) hm
theorem hmac_len (key text : List Nat) : (hmac key text).length = 32 := digest_len' _
theorem hmac_lt (key text : List Nat) : ∀ z ∈ hmac key text, z < 256 := digest_lt _

theorem xor_nil {x y : Nat} (h : x ^^^ y = 0) : x = y := by
  have e : x ^^^ y ^^^ y = 0 ^^^ y := by rw [h]
  rw [Nat.xor_assoc, Nat.xor_self, Nat.xor_zero, Nat.zero_xor] at e
  exact e
theorem or_zero_iff (d x y : Nat) : d ||| (x ^^^ y) = 0 ↔ d = 0 ∧ x = y := by
  rw [Nat.or_eq_zero_iff]
  constructor
  · rintro ⟨h1, h2⟩; exact ⟨h1, xor_nil h2⟩
  · rintro ⟨h1, rfl⟩; exact ⟨h1, Nat.xor_self _⟩
theorem or_byte (a b : Nat) (ha : a < 256) (hb : b < 256) : a ||| b < 256 := Nat.or_lt_two_pow (n := 8) ha hb

set_option maxHeartbeats 1000000 in
theorem msame_any {w : World} {v u : Value} {xs ys : List Nat} (hv : Bs w v xs) (hu : Bs w u ys) :
    Calls Tryd.prog 18 #[v, u] w fun e w' => e = .returned (.bool (decide (xs = ys))) ∧ ∃ d, w' = w.drewN d := by
  obtain ⟨n, hn⟩ : ∃ n, n = xs.length := ⟨_, rfl⟩
  have hnb : n ≤ 281474976710656 := by rw [hn]; exact hv.2.1
  by_cases hl : ys.length = n
  · have HV := Hid.mk' hv
    have HU := Hid.mk' hu
    obtain ⟨a0, c0, rfl, -, -⟩ := hv.gen
    obtain ⟨a1, c1, rfl, -, -⟩ := hu.gen
    rw [← hn] at HV ⊢
    rw [hl] at HU ⊢
    have HX := Hid.mk' hn.symm
    have HY := Hid.mk' hl
    clear hv hu hn hl
    go_enter Tryd.func18, Tryd.ntmps18
    go_wp2
    go_loopw [5, 14] (fun s i wr => ∃ k d q : Nat, k ≤ n ∧ i = .int .i64 k ∧ s = .int .u8 (d : Int) ∧ d < 256 ∧ (d = 0 ↔ xs.take k = ys.take k) ∧ wr = w.drewN q) (fun _ i _ => n - (intOf i).toNat)
    case atStart => exact ⟨0, 0, 0, Nat.zero_le _, rfl, rfl, by decide, by simp, rfl⟩
    case round =>
      obtain ⟨k, d, q, hk, rfl, rfl, hd, hr, rfl⟩ := hrel
      have HR := Hid.mk' hr
      clear hr
      by_cases hlt : k < n
      · have h0 : 0 < xs.length := by rw [HX.out]; omega
        have h1 : 0 < ys.length := by rw [HY.out]; omega
        obtain ⟨x, hx⟩ : ∃ x, xs.getD k 0 = x := ⟨_, rfl⟩
        obtain ⟨y, hy⟩ : ∃ y, ys.getD k 0 = y := ⟨_, rfl⟩
        have hx1 : x < 256 := by rw [← hx]; exact HV.out.1 _ (getD_mem xs k (by rw [HX.out]; exact hlt))
        have hy1 : y < 256 := by rw [← hy]; exact HU.out.1 _ (getD_mem ys k (by rw [HY.out]; exact hlt))
        obtain ⟨_, _, ⟨e, _⟩ | ⟨_, b0, o0, cc0, e0, _, _, hc0⟩⟩ := HV.out
        · simp [e] at h0
        obtain ⟨_, _, ⟨e, _⟩ | ⟨_, b1, o1, cc1, e1, _, _, hc1⟩⟩ := HU.out
        · simp [e] at h1
        simp only [Value.slice.injEq] at e0 e1
        obtain ⟨rfl, _, rfl⟩ := e0
        obtain ⟨rfl, _, rfl⟩ := e1
        have f0 : w.cell? ⟨b0, o0 + k, none⟩ = some (.int .u8 (x : Nat)) := by rw [← hx]; exact hc0 k (by rw [HX.out]; exact hlt)
        have f1 : w.cell? ⟨b1, o1 + k, none⟩ = some (.int .u8 (y : Nat)) := by rw [← hy]; exact hc1 k (by rw [HY.out]; exact hlt)
        have hv1 : bits .xor .u8 (x : Int) (y : Int) = ((x ^^^ y : Nat) : Int) := u8_xor_nat x y hx1 hy1
        have hv2 : bits .or .u8 (d : Int) ((x ^^^ y : Nat) : Int) = ((d ||| (x ^^^ y) : Nat) : Int) := u8_or_nat d _ hd (xor_byte x y hx1 hy1)
        have HZ : Hid ((d ||| (x ^^^ y) = 0) ↔ xs.take (k + 1) = ys.take (k + 1)) := by
          show _ ↔ _
          rw [or_zero_iff, HR.out, take_next' xs k (by rw [HX.out]; exact hlt), take_next' ys k (by rw [HY.out]; exact hlt), hx, hy]
          constructor
          · rintro ⟨h1, h2⟩; rw [h1, h2]
          · intro h
            have h' := List.append_inj h (by simp [HX.out, HY.out])
            exact ⟨h'.1, by simpa using h'.2⟩
        have HD : Hid (d ||| (x ^^^ y) < 256) := or_byte _ _ hd (xor_byte _ _ hx1 hy1)
        clear hc0 hc1 hx hy HV HU h0 h1
        generalize (x ^^^ y) = xy at *
        generalize (d ||| xy) = d' at *
        have hlti : (k : Int) < (n : Int) := by omega
        go_wp2
        go_quiet (fail)
        go_wp2
        refine ⟨⟨k + 1, d', q + nq, by omega, by go_num, rfl, HD.out, HZ.out, by simp⟩, by simp [intOf]; omega⟩
      · have hkn : k = n := by omega
        have hge : ¬ ((k : Int) < (n : Int)) := by omega
        have hr' : (d = 0) ↔ xs = ys := by
          rw [HR.out, List.take_of_length_le (by rw [HX.out]; omega), List.take_of_length_le (by rw [HY.out]; omega)]
        have hdec : ((d : Int) == 0) = decide (xs = ys) := by
          rw [Bool.eq_iff_iff, beq_iff_eq, decide_eq_true_eq, ← hr']; omega
        have HDC := Hid.mk' hdec
        clear hdec hr' HR hkn
        go_wp2
        go_ret
        exact ⟨by rw [← HDC.out]; rfl, q, rfl⟩
  · obtain ⟨a0, c0, rfl, -, -⟩ := hv.gen
    obtain ⟨a1, c1, rfl, -, -⟩ := hu.gen
    have hne : xs ≠ ys := fun e => hl (by rw [hn, e])
    have hne2 : ¬ ((xs.length : Int) = (ys.length : Int)) := by omega
    have HD : Hid (decide (xs = ys) = false) := by show _ = _; simp [hne]
    generalize xs.length = l0 at *
    generalize ys.length = l1 at *
    clear hv hu hne hn hl
    rw [HD.out]
    go_enter Tryd.func18, Tryd.ntmps18
    go_wp2
    go_ret
    exact ⟨rfl, 0, rfl⟩
end Go.Proofs.YtkelfjpnjhjmoaaDoor
