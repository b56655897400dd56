/- bytes.Join, off the library's shelf. -/
import Derived.Test.YthpgjbblbhjndaaDoorGhBlocks
import Derived.Test.YthpgjbblbhjndaaDoorShaOf
import Derived.Shelf.Bytes.SlJoin
namespace Go.Proofs.YthpgjbblbhjndaaDoor
open Go.RowKit

def renJ : Shelf.Ren := ⟨fun x => if x = 14 then 35 else if x = 15 then 44 else x, fun x => if x = 22 then 31 else if x = 26 then 54 else if x = 0 then 0 else if x = 3 then 3 else if x = 4 then 4 else if x = 9 then 9 else if x = 20 then 20 else if x = 5 then 5 else x, fun x => x⟩
theorem laysJ : SlLaysJ.n14 Tryd.prog renJ where
  mixed := by kernel_rfl
  f14 := by kernel_rfl
  f15 := by kernel_rfl
  t0 := by kernel_rfl
  a0 := fun _ => by kernel_rfl
  z0 := fun _ => by kernel_rfl
  v0 := fun _ => by kernel_rfl
  t3 := by kernel_rfl
  a3 := fun _ => by kernel_rfl
  z3 := fun _ => by kernel_rfl
  v3 := fun _ => by kernel_rfl
  t4 := by kernel_rfl
  a4 := fun _ => by kernel_rfl
  z4 := fun _ => by kernel_rfl
  v4 := fun _ => by kernel_rfl
  t9 := by kernel_rfl
  a9 := fun _ => by kernel_rfl
  z9 := fun _ => by kernel_rfl
  v9 := fun _ => by kernel_rfl
  t20 := by kernel_rfl
  a20 := fun _ => by kernel_rfl
  z20 := fun _ => by kernel_rfl
  v20 := fun _ => by kernel_rfl
  t22 := by kernel_rfl
  a22 := fun _ => by kernel_rfl
  z22 := fun _ => by kernel_rfl
  v22 := fun _ => by kernel_rfl
  t26 := by kernel_rfl
  a26 := fun _ => by kernel_rfl
  z26 := fun _ => by kernel_rfl
  v26 := fun _ => by kernel_rfl
  t5 := by kernel_rfl
  z5 := fun _ => by kernel_rfl
  i5 := by kernel_rfl
abbrev b8s (xs : List Nat) : List UInt8 := xs.map UInt8.ofNat
theorem b8s_nat {xs : List Nat} (h : ∀ z ∈ xs, z < 256) : (b8s xs).map UInt8.toNat = xs := by
  induction xs with
  | nil => rfl
  | cons a l ih =>
    simp only [b8s, List.map_cons] at ih ⊢
    rw [ih (fun z hz => h z (List.mem_cons_of_mem _ hz))]
    congr 1
    have := h a List.mem_cons_self
    simp; omega
theorem Bs.holds {w : World} {v : Value} {xs : List Nat} (h : Bs w v xs) : Lib.HoldsBytes w v (b8s xs) := by
  have hlt := h.1
  obtain ⟨ao, cap, rfl, hn, hc⟩ := h.gen
  refine ⟨ao, cap, by simp [b8s], fun e => by rw [List.eq_nil_of_length_eq_zero (hn e).1]; rfl, fun a ha i x hx => ?_⟩
  have hi : i < xs.length := by have := (List.getElem?_eq_some_iff.1 hx).1; simpa [b8s] using this
  rw [hc a ha i _ (u8s_get xs i hi)]
  have hg := getD_mem xs i hi
  have h2 := hlt _ hg
  have : x = UInt8.ofNat (xs.getD i 0) := by
    simp [b8s, hi] at hx
    rw [← hx]; simp [List.getD, hi]
  rw [this]
  generalize xs.getD i 0 = q at *
  simp
  omega
theorem fresh_bs {B : Nat} {w : World} {v : Value} {xs : List Nat} (hx : ∀ z ∈ xs, z < 256) (h : Lib.FreshBytes B w v (b8s xs)) (hl : xs.length ≤ 281474976710656) : Bs w v xs ∧ ∀ k, v.ownBlock = some k → B ≤ k := by
  obtain ⟨g, cap, zs, rfl, hg, h1, h2, h3, h4, h5, h6, _⟩ := h
  have hlen : (b8s xs).length = xs.length := by simp [b8s]
  rw [hlen] at h1 h5 ⊢
  refine ⟨⟨hx, hl, ?_⟩, fun k hk => by cases hk; exact hg⟩
  by_cases h0 : xs = []
  · subst h0; exact .inl ⟨rfl, .inr ⟨_, _, rfl⟩⟩
  · have hpos : 0 < xs.length := List.length_pos_iff.2 h0
    have hc0 := h6 0 (by omega)
    refine .inr ⟨hpos, g, 0, cap, rfl, h1, World.block_lt_of_cell? _ _ hc0, fun i hi => ?_⟩
    rw [Nat.zero_add, h6 i (by omega)]
    have hz := h4 (zs.getD i 0) (by simp [List.getD, show i < zs.length by omega])
    have hiz : i < zs.length := by omega
    have e3 : zs.getD i 0 = zs[i] := by simp [List.getD, hiz]
    have e4 : xs.getD i 0 = xs[i] := by simp [List.getD, hi]
    have hxi := hx _ (getD_mem xs i hi)
    rw [e3] at hz ⊢
    rw [e4] at hxi ⊢
    have e := congrArg (fun l : List UInt8 => l[i]?) h5
    simp [Lib.bytesOf, b8s, hi, hiz] at e
    have e5 := congrArg UInt8.toNat e
    simp at e5
    congr 2
    omega
theorem join_flat : ∀ (xss : List (List UInt8)), Lib.join xss [] = xss.flatten
  | [] => rfl
  | [x] => by simp [Lib.join_one]
  | x :: y :: l => by
    have := join_flat (y :: l)
    simp only [Lib.join, List.intercalate, List.intersperse, List.flatten_cons, List.nil_append] at this ⊢
    rw [this]
theorem b8s_flat (xss : List (List Nat)) : (xss.map b8s).flatten = b8s xss.flatten := by
  simp [b8s, List.map_flatten]
/-- The parts, one behind the other, in memory that is new. -/
theorem join_any {w : World} {v : Value} {xss : List (List Nat)} (hv : Ps w v xss) (h1 : 1 ≤ xss.length) (h2 : xss.length ≤ 1000) (hlen : xss.flatten.length ≤ 1000000) (hcap : ∀ ao n c, v = .slice ao n c → n ≤ c) :
    Calls Tryd.prog 35 #[v, .slice none 0 0] w fun e w' => ∃ v', e = .returned v' ∧ Bs w' v' xss.flatten ∧ (0 < xss.flatten.length → ∀ k, v'.ownBlock = some k → w.heap.size ≤ k) ∧ Grow w w' := by
  obtain ⟨ao, cap, rfl, hg⟩ := hv.gen
  obtain ⟨b, off, rfl, hb, hc⟩ := hg (by omega)
  have hlt : ∀ z ∈ xss.flatten, z < 256 := fun z hz => by
    obtain ⟨l, hl, hz2⟩ := List.mem_flatten.1 hz
    obtain ⟨i, hi⟩ := List.mem_iff_getElem?.1 hl
    have hi2 := (List.getElem?_eq_some_iff.1 hi).1
    obtain ⟨u, _, hu⟩ := hc i hi2
    have : xss.getD i [] = l := by simp [List.getD, hi]
    rw [this] at hu
    exact hu.1 z hz2
  have hadd : ∀ i, (⟨b, off, none⟩ : Addr).add i = ⟨b, off + i, none⟩ := fun i => by simp [Addr.add]
  by_cases hone : xss.length = 1
  · obtain ⟨xs, rfl⟩ : ∃ xs, xss = [xs] := by
      match xss, hone with
      | [xs], _ => exact ⟨xs, rfl⟩
    obtain ⟨u, hcu, hbu⟩ := hc 0 (by simp)
    have hbu' : Bs w u xs := hbu
    have hfl : ([xs] : List (List Nat)).flatten = xs := by simp
    rw [hfl] at hlen hlt ⊢
    have hh := hbu'.holds
    obtain ⟨p0, c0, rfl, hp0, hcell⟩ := hh
    rw [Nat.add_zero] at hcu
    by_cases h0 : xs = []
    · subst h0
      refine (Any.bytes_Join_one_empty laysJ b off cap p0 c0 (.slice none 0 0) w hcu).mono ?_
      rintro e w' ⟨rfl, rfl⟩
      exact ⟨_, rfl, Bs.nil _, fun h => absurd h (by simp), But.refl _ _⟩
    · have hpos : 0 < xs.length := List.length_pos_iff.2 h0
      have hpos2 : 0 < (b8s xs).length := by simpa [b8s] using hpos
      cases p0 with
      | none => have := hp0 rfl; rw [this] at hpos2; simp at hpos2
      | some ad =>
        refine (Any.bytes_Join_one laysJ b off cap ad c0 (b8s xs) (.slice none 0 0) w hcu (hcell ad rfl) hpos2 (by simp [b8s]; omega)).mono ?_
        rintro e w' ⟨v', rfl, hf, hbl⟩
        obtain ⟨q1, q2⟩ := fresh_bs hlt hf (by omega)
        exact ⟨v', rfl, q1, fun _ => q2, But.of hbl⟩
  · have hex : ∀ i, i < xss.length → ∃ u, w.cell? ⟨b, off + i, none⟩ = some u ∧ Bs w u (xss.getD i []) := hc
    obtain ⟨V, hV⟩ := Deep.choose_lt (α := Value) (p := fun i u => w.cell? ⟨b, off + i, none⟩ = some u ∧ Bs w u (xss.getD i [])) hex
    refine (Any.bytes_Join_many laysJ b off xss.length cap ((List.range xss.length).map V) (xss.map b8s) (.slice none 0 0) [] w (by simp) (by omega) ⟨by simp, fun i u hu => ?_, fun i u l hu hl => ?_⟩ ?_ ⟨none, 0, rfl, fun _ => rfl, fun a ha => by cases ha⟩ (by omega) ?_).mono ?_
    · have hi : i < xss.length := by have := (List.getElem?_eq_some_iff.1 hu).1; simpa using this
      simp [hi] at hu
      rw [hadd, ← hu]
      exact (hV i hi).1
    · have hi : i < xss.length := by have := (List.getElem?_eq_some_iff.1 hu).1; simpa using this
      simp [hi] at hu hl
      rw [← hu, ← hl]
      have := (hV i hi).2.holds
      have e : xss.getD i [] = xss[i] := by simp [List.getD, hi]
      rw [e] at this
      exact this
    · exact hcap _ _ _ rfl
    · have : Lib.lens (xss.map b8s) = xss.flatten.length := by
        rw [List.length_flatten]
        simp [Lib.lens, b8s, List.map_map, Function.comp_def]
      rw [this]
      simp only [List.length_nil, Nat.zero_mul, Nat.add_zero]
      omega
    · rintro e w' ⟨v', rfl, hf, hbl⟩
      rw [join_flat, b8s_flat] at hf
      obtain ⟨q1, q2⟩ := fresh_bs hlt hf (by omega)
      exact ⟨v', rfl, q1, fun _ => q2, But.of hbl⟩
end Go.Proofs.YthpgjbblbhjndaaDoor
