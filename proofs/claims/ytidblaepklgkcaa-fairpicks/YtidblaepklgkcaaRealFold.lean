/- The first and the last one of a list, as a fold by ranks; and that real.Min and real.Max answer it. -/
import Derived.Test.YtidblaepklgkcaaRealOf
import Derived.Test.YtidblaepklgkcaaFloatView
namespace Go.Proofs.Ytidblaepklgkcaa
open Go.RowKit

/-- The first one so far. -/
def mnf (l : List Nat) : Nat := l.foldl (fun a x => if ls x a then x else a) 9221120237041090561
/-- The last one so far, from a on. -/
def mxf (a : Nat) (l : List Nat) : Nat := l.foldl (fun a x => if ls a x then x else a) a
/-- The last one. -/
def mxl (l : List Nat) : Nat := mxf (l.getD 0 0) (l.drop 1)

theorem mnf_snoc (l : List Nat) (x : Nat) : mnf (l ++ [x]) = if ls x (mnf l) then x else mnf l := by unfold mnf; rw [List.foldl_append]; rfl
theorem mxf_snoc (a : Nat) (l : List Nat) (x : Nat) : mxf a (l ++ [x]) = if ls (mxf a l) x then x else mxf a l := by unfold mxf; rw [List.foldl_append]; rfl

theorem take_next (l : List Nat) (k : Nat) (h : k < l.length) : l.take (k + 1) = l.take k ++ [l.getD k 0] := by
  rw [List.take_succ_eq_append_getElem h]; simp [List.getD, List.getElem?_eq_getElem h]

theorem mnf_next (l : List Nat) (k : Nat) (h : k < l.length) : mnf (l.take (k + 1)) = if ls (l.getD k 0) (mnf (l.take k)) then l.getD k 0 else mnf (l.take k) := by
  rw [take_next l k h, mnf_snoc]
theorem mxf_next (a : Nat) (l : List Nat) (k : Nat) (h : k < l.length) : mxf a (l.take (k + 1)) = if ls (mxf a (l.take k)) (l.getD k 0) then l.getD k 0 else mxf a (l.take k) := by
  rw [take_next l k h, mxf_snoc]

theorem foldl_lt (f : Nat → Nat → Nat) (hf : ∀ a x, f a x = a ∨ f a x = x) (l : List Nat) (a : Nat) (ha : a < 18446744073709551616) (hl : ∀ z ∈ l, z < 18446744073709551616) : l.foldl f a < 18446744073709551616 := by
  induction l generalizing a with
  | nil => exact ha
  | cons x r ih =>
    refine ih (f a x) ?_ (fun z hz => hl z (List.mem_cons_of_mem _ hz))
    rcases hf a x with h | h
    · rw [h]; exact ha
    · rw [h]; exact hl x List.mem_cons_self
theorem mnf_lt (l : List Nat) (hl : ∀ z ∈ l, z < 18446744073709551616) : mnf l < 18446744073709551616 :=
  foldl_lt _ (fun a x => by by_cases h : ls x a = true <;> simp [h]) l _ (by decide) hl
theorem mxf_lt (a : Nat) (l : List Nat) (ha : a < 18446744073709551616) (hl : ∀ z ∈ l, z < 18446744073709551616) : mxf a l < 18446744073709551616 :=
  foldl_lt _ (fun a x => by by_cases h : ls a x = true <;> simp [h]) l _ ha hl

theorem mnf_le (l : List Nat) : (∀ z ∈ l, rk (mnf l) ≤ rk z) ∧ (mnf l = 9221120237041090561 ∨ mnf l ∈ l) := by
  suffices H : ∀ (l : List Nat) (a : Nat), (rk (l.foldl (fun a x => if ls x a then x else a) a) ≤ rk a) ∧ (∀ z ∈ l, rk (l.foldl (fun a x => if ls x a then x else a) a) ≤ rk z) ∧ (l.foldl (fun a x => if ls x a then x else a) a = a ∨ l.foldl (fun a x => if ls x a then x else a) a ∈ l) from (H l _).2
  intro l
  induction l with
  | nil => intro a; simp
  | cons x r ih =>
    intro a
    simp only [List.foldl_cons]
    by_cases h : ls x a = true
    · rw [if_pos h]
      obtain ⟨h1, h2, h3⟩ := ih x
      have hx : rk x < rk a := by unfold ls at h; simpa using h
      refine ⟨by omega, ?_, ?_⟩
      · intro z hz
        rcases List.mem_cons.1 hz with rfl | hz
        · exact h1
        · exact h2 z hz
      · right
        rcases h3 with h3 | h3
        · rw [h3]; exact List.mem_cons_self
        · exact List.mem_cons_of_mem _ h3
    · rw [if_neg h]
      obtain ⟨h1, h2, h3⟩ := ih a
      have hx : rk a ≤ rk x := by unfold ls at h; simpa using h
      refine ⟨h1, ?_, ?_⟩
      · intro z hz
        rcases List.mem_cons.1 hz with rfl | hz
        · omega
        · exact h2 z hz
      · rcases h3 with h3 | h3
        · exact .inl h3
        · exact .inr (List.mem_cons_of_mem _ h3)

theorem mxl_le (l : List Nat) (hl : 0 < l.length) : (∀ z ∈ l, rk z ≤ rk (mxl l)) ∧ mxl l ∈ l := by
  suffices H : ∀ (l : List Nat) (a : Nat), (rk a ≤ rk (mxf a l)) ∧ (∀ z ∈ l, rk z ≤ rk (mxf a l)) ∧ (mxf a l = a ∨ mxf a l ∈ l) by
    match l, hl with
    | a :: r, _ =>
      have e : mxl (a :: r) = mxf a r := rfl
      rw [e]
      obtain ⟨h1, h2, h3⟩ := H r a
      refine ⟨?_, ?_⟩
      · intro z hz
        rcases List.mem_cons.1 hz with rfl | hz
        · exact h1
        · exact h2 z hz
      · rcases h3 with h3 | h3
        · rw [h3]; exact List.mem_cons_self
        · exact List.mem_cons_of_mem _ h3
  intro l
  induction l with
  | nil => intro a; simp [mxf]
  | cons x r ih =>
    intro a
    have e : mxf a (x :: r) = mxf (if ls a x then x else a) r := rfl
    rw [e]
    by_cases h : ls a x = true
    · rw [if_pos h]
      obtain ⟨h1, h2, h3⟩ := ih x
      have hx : rk a < rk x := by unfold ls at h; simpa using h
      refine ⟨by omega, ?_, ?_⟩
      · intro z hz
        rcases List.mem_cons.1 hz with rfl | hz
        · exact h1
        · exact h2 z hz
      · right
        rcases h3 with h3 | h3
        · rw [h3]; exact List.mem_cons_self
        · exact List.mem_cons_of_mem _ h3
    · rw [if_neg h]
      obtain ⟨h1, h2, h3⟩ := ih a
      have hx : rk x ≤ rk a := by unfold ls at h; simpa using h
      refine ⟨h1, ?_, ?_⟩
      · intro z hz
        rcases List.mem_cons.1 hz with rfl | hz
        · omega
        · exact h2 z hz
      · rcases h3 with h3 | h3
        · exact .inl h3
        · exact .inr (List.mem_cons_of_mem _ h3)

theorem mnf_mem (l : List Nat) (hl : 0 < l.length) : ∃ z ∈ l, rk z = rk (mnf l) := by
  obtain ⟨h1, h2⟩ := mnf_le l
  rcases h2 with h2 | h2
  · obtain ⟨z, hz⟩ : ∃ z, z ∈ l := ⟨l[0], List.getElem_mem hl⟩
    refine ⟨z, hz, ?_⟩
    have a1 := h1 z hz
    have a2 := rk_le z
    have a3 : rk 9221120237041090561 = 9223372036854775807 := by decide
    rw [h2] at a1 ⊢
    omega
  · exact ⟨_, h2, rfl⟩

theorem mnf_rev (l : List Nat) (hl : 0 < l.length) : sa (mnf l.reverse) (mnf l) = true := by
  obtain ⟨h1, _⟩ := mnf_le l
  obtain ⟨h2, _⟩ := mnf_le l.reverse
  obtain ⟨z, hz, e1⟩ := mnf_mem l hl
  obtain ⟨y, hy, e2⟩ := mnf_mem l.reverse (by simpa using hl)
  have a := h1 y (by simpa using hy)
  have b := h2 z (by simpa using hz)
  unfold sa; simp; omega

theorem mxl_rev (l : List Nat) (hl : 0 < l.length) : sa (mxl l.reverse) (mxl l) = true := by
  obtain ⟨h1, hz⟩ := mxl_le l hl
  obtain ⟨h2, hy⟩ := mxl_le l.reverse (by simpa using hl)
  have a := h1 _ (show mxl l.reverse ∈ l by simpa using hy)
  have b := h2 _ (show mxl l ∈ l.reverse by simpa using hz)
  unfold sa; simp; omega

theorem flv {a b : Nat} (h : a = b) : Value.float .f64 a = .float .f64 b := by rw [h]

theorem min_empty (ao : Option Addr) (cap : Nat) (w : World) :
    Calls Try.prog 52 #[.slice ao 0 cap] w fun e w' => e = .returned (.float .f64 9221120237041090561) ∧ w' = w := by
  go_enter Try.func52, Try.ntmps52
  go_wp2_with (go_at_call 58; refine (nan_any _).mono ?_; rintro e w' ⟨rfl, rfl⟩)
  refine wp_loop_rounds 1 ?_
  rw [rounds_succ]
  go_wp2
  go_ret
  exact ⟨rfl, rfl⟩

theorem min_any (b off cap : Nat) (zs : List Nat) (w : World) (hl : zs.length * 8 ≤ 140737488351232) (hw : ∀ z ∈ zs, z < 18446744073709551616)
    (hc : ∀ i, i < zs.length → w.cell? ⟨b, off + i, none⟩ = some (.float .f64 (zs.getD i 0))) :
    Calls Try.prog 52 #[.slice (some ⟨b, off, none⟩) zs.length cap] w fun e w' => e = .returned (.float .f64 (mnf zs)) ∧ w' = w := by
  obtain ⟨n, hn⟩ : ∃ n, zs.length = n := ⟨_, rfl⟩
  rw [hn] at hl ⊢
  have HN : Hid (zs.length = n) := hn
  have HC : Hid (∀ i, i < zs.length → w.cell? ⟨b, off + i, none⟩ = some (.float .f64 (zs.getD i 0))) := hc
  have HW : Hid (∀ z ∈ zs, z < 18446744073709551616) := hw
  clear hn hc hw
  go_enter Try.func52, Try.ntmps52
  go_wp2_with fail
  refine (nan_any _).mono ?_
  rintro e w' ⟨rfl, hw⟩
  have hw2 := hw.symm
  subst hw2
  go_wp2
  go_loop [3, 9] (fun f i => ∃ k : Nat, k ≤ n ∧ i = .int .i64 k ∧ f = .float .f64 (mnf (zs.take k))) (fun _ i => n - (intOf i).toNat)
  case atStart => exact ⟨0, Nat.zero_le _, rfl, rfl⟩
  case round =>
    obtain ⟨k, hk, rfl, rfl⟩ := hrel
    obtain ⟨m, hm⟩ : ∃ m, mnf (zs.take k) = m := ⟨_, rfl⟩
    have HM : Hid (mnf (zs.take k) = m) := hm
    have hm1 : m < 18446744073709551616 := by rw [← hm]; exact mnf_lt _ (fun z hz => HW.out z (List.mem_of_mem_take hz))
    rw [hm]
    clear hm
    by_cases hlt : k < n
    · obtain ⟨z, hz⟩ : ∃ z, zs.getD k 0 = z := ⟨_, rfl⟩
      have hcell : w.cell? ⟨b, off + k, none⟩ = some (.float .f64 z) := by rw [← hz]; exact HC.out k (by rw [HN.out]; exact hlt)
      have hz1 : z < 18446744073709551616 := by
        have hkl : k < zs.length := by rw [HN.out]; exact hlt
        rw [← hz]
        exact HW.out _ (by simp [List.getD, List.getElem?_eq_getElem hkl])
      have HS : Hid (mnf (zs.take (k + 1)) = if ls z m then z else m) := by
        have := mnf_next zs k (by rw [HN.out]; exact hlt)
        rw [hz, HM.out] at this
        exact this
      clear hz
      cases hb : ls z m
      · go_wp2_with (go_at_call 55; refine (less_any _ _ _ (by assumption) (by assumption)).mono ?_; rintro e w' ⟨rfl, rfl⟩)
        go_round
        case rel => exact ⟨k + 1, by omega, by go_num, flv (by rw [HS.out, hb]; rfl)⟩
        case measure => simp [intOf]; omega
      · go_wp2_with (go_at_call 55; refine (less_any _ _ _ (by assumption) (by assumption)).mono ?_; rintro e w' ⟨rfl, rfl⟩)
        go_round
        case rel => exact ⟨k + 1, by omega, by go_num, flv (by rw [HS.out, hb]; rfl)⟩
        case measure => simp [intOf]; omega
    · go_wp2
      go_ret
      exact ⟨fl_eq (by rw [← HM.out, List.take_of_length_le (by rw [HN.out]; omega)]), rfl⟩

end Go.Proofs.Ytidblaepklgkcaa
