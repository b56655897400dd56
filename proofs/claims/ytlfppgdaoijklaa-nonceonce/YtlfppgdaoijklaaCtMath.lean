/- count: entries as numbers, their bytes, and a counter block. -/
import Derived.Test.YtlfppgdaoijklaaRowRefRead
import Derived.Test.YtlfppgdaoijklaaCuts
import Derived.Test.YtlfppgdaoijklaaRws
import Derived.Test.YtlfppgdaoijklaaEqItems
import Derived.Test.YtlfppgdaoijklaaEntry
namespace Go.Proofs.Ytlfppgdaoijklaa
open Go.RowKit

def nbs (x : En) : List Nat := be x.b 4 ++ be x.s 8
def ebs (x : En) : List Nat := be x.e 4 ++ nbs x
theorem nbs_len (x : En) : (nbs x).length = 12 := by simp [nbs, be_len]
theorem ebs_len (x : En) : (ebs x).length = 16 := by simp [ebs, nbs, be_len]
theorem nbs_lt (x : En) : ∀ z ∈ nbs x, z < 256 := by
  intro z hz
  rcases List.mem_append.1 hz with h | h
  · exact be_lt _ _ z h
  · exact be_lt _ _ z h
theorem ebs_lt (x : En) : ∀ z ∈ ebs x, z < 256 := by
  intro z hz
  rcases List.mem_append.1 hz with h | h
  · exact be_lt _ _ z h
  · exact nbs_lt x z h

theorem be_snoc (N : Nat) : ∀ k, be N (k + 1) = be (N / 256) k ++ [N % 256]
  | 0 => by simp [be]
  | k + 1 => by
    show (N / 256 ^ (k + 1) % 256) :: be N (k + 1) = (N / 256 / 256 ^ k % 256) :: be (N / 256) k ++ [N % 256]
    rw [be_snoc N k, Nat.div_div_eq_div_mul, Nat.pow_succ, Nat.mul_comm (256 ^ k) 256]
    rfl
theorem be_val (zs : List Nat) (hz : ∀ z ∈ zs, z < 256) : ∀ k, k ≤ zs.length → be (val (zs.take k)) k = zs.take k
  | 0, _ => by simp [be]
  | k + 1, h => by
    have h1 : zs.getD k 0 < 256 := hz _ (getD_mem zs k (by omega))
    rw [be_snoc, val_next zs k (by omega), show (256 * val (zs.take k) + zs.getD k 0) / 256 = val (zs.take k) by omega, show (256 * val (zs.take k) + zs.getD k 0) % 256 = zs.getD k 0 by omega, be_val zs hz k (by omega), take_next' zs k (by omega)]

/-- The entry that the first sixteen bytes are. -/
def en (zs : List Nat) : En := ⟨val (zs.take 4), val ((zs.drop 4).take 4), val ((zs.drop 8).take 8)⟩
theorem en_ok {zs : List Nat} (hz : ∀ z ∈ zs, z < 256) (hl : 16 ≤ zs.length) : (en zs).ok := by
  refine ⟨?_, ?_, ?_⟩
  · exact val_lt zs hz 4 (by omega)
  · exact val_lt (zs.drop 4) (fun z h => hz z (List.mem_of_mem_drop h)) 4 (by rw [List.length_drop]; omega)
  · exact val_lt (zs.drop 8) (fun z h => hz z (List.mem_of_mem_drop h)) 8 (by rw [List.length_drop]; omega)
theorem ebs_en {zs : List Nat} (hz : ∀ z ∈ zs, z < 256) (hl : 16 ≤ zs.length) : ebs (en zs) = zs.take 16 := by
  have h1 := be_val zs hz 4 (by omega)
  have h2 := be_val (zs.drop 4) (fun z h => hz z (List.mem_of_mem_drop h)) 4 (by rw [List.length_drop]; omega)
  have h3 := be_val (zs.drop 8) (fun z h => hz z (List.mem_of_mem_drop h)) 8 (by rw [List.length_drop]; omega)
  simp only [ebs, nbs, en, h1, h2, h3]
  have e1 : zs.take 16 = zs.take 4 ++ (zs.drop 4).take 12 := by rw [show 16 = 4 + 12 from rfl, List.take_add]
  have e2 : (zs.drop 4).take 12 = (zs.drop 4).take 4 ++ (zs.drop 8).take 8 := by rw [show 12 = 4 + 8 from rfl, List.take_add, List.drop_drop]
  rw [e1, e2]
theorem en_ebs (x : En) (h : x.ok) (r : List Nat) : en (ebs x ++ r) = x := by
  obtain ⟨h1, h2, h3⟩ := h
  have e1 : (ebs x ++ r).take 4 = be x.e 4 := by simp [ebs, be_len]
  have e2 : ((ebs x ++ r).drop 4).take 4 = be x.b 4 := by simp [ebs, nbs, be_len]
  have e3 : ((ebs x ++ r).drop 8).take 8 = be x.s 8 := by simp [ebs, nbs, List.take_append, List.drop_append, be_len]
  unfold en
  rw [e1, e2, e3, val_be, val_be, val_be, Nat.mod_eq_of_lt (by simpa using h1), Nat.mod_eq_of_lt (by simpa using h2), Nat.mod_eq_of_lt (by simpa using h3)]
theorem en_eq {x y : En} (hx : x.ok) (hy : y.ok) (h : ebs x = ebs y) : x = y := by
  have := en_ebs x hx []
  rw [h, en_ebs y hy []] at this
  exact this.symm
theorem nbs_eq {x y : En} (hx : x.ok) (hy : y.ok) : nbs x = nbs y ↔ (x.b = y.b ∧ x.s = y.s) := by
  constructor
  · intro h
    have h' := List.append_inj h (by simp [be_len])
    have h1 := congrArg val h'.1
    have h2 := congrArg val h'.2
    rw [val_be, val_be, Nat.mod_eq_of_lt (by simpa using hx.2.1), Nat.mod_eq_of_lt (by simpa using hy.2.1)] at h1
    rw [val_be, val_be, Nat.mod_eq_of_lt (by simpa using hx.2.2), Nat.mod_eq_of_lt (by simpa using hy.2.2)] at h2
    exact ⟨h1, h2⟩
  · rintro ⟨h1, h2⟩
    simp [nbs, h1, h2]

/-- The bytes zs, with x as the entry i. -/
def setE (zs : List Nat) (i : Nat) (x : En) : List Nat := zs.take (16 * i) ++ ebs x ++ zs.drop (16 * i + 16)
theorem setE_len {zs : List Nat} {i : Nat} (x : En) (h : 16 * i + 16 ≤ zs.length) : (setE zs i x).length = zs.length := by
  simp [setE, ebs_len]; omega
theorem setE_lt {zs : List Nat} {i : Nat} (x : En) (hz : ∀ z ∈ zs, z < 256) : ∀ z ∈ setE zs i x, z < 256 := by
  intro z h
  simp only [setE, List.mem_append] at h
  rcases h with (h | h) | h
  · exact hz z (List.mem_of_mem_take h)
  · exact ebs_lt x z h
  · exact hz z (List.mem_of_mem_drop h)
/-- The entry i of a block. -/
def atE (zs : List Nat) (i : Nat) : En := en (zs.drop (16 * i))
theorem atE_ok {zs : List Nat} (hz : ∀ z ∈ zs, z < 256) {i : Nat} (h : 16 * i + 16 ≤ zs.length) : (atE zs i).ok :=
  en_ok (fun z hm => hz z (List.mem_of_mem_drop hm)) (by rw [List.length_drop]; omega)
theorem atE_set {zs : List Nat} {i : Nat} {x : En} (hx : x.ok) (h : 16 * i + 16 ≤ zs.length) : atE (setE zs i x) i = x := by
  unfold atE setE
  have e : (zs.take (16 * i) ++ ebs x ++ zs.drop (16 * i + 16)).drop (16 * i) = ebs x ++ zs.drop (16 * i + 16) := by
    rw [List.append_assoc, List.drop_append_of_le_length (by simp; omega), List.drop_of_length_le (by simp; omega), List.nil_append]
  rw [e, en_ebs x hx]
theorem en_take (zs : List Nat) : en (zs.take 16) = en zs := by
  simp [en, List.take_take, List.drop_take]
theorem atE_other {zs : List Nat} {i k : Nat} (x : En) (h : 16 * i + 16 ≤ zs.length) (hne : k ≠ i) : atE (setE zs i x) k = atE zs k := by
  unfold atE
  rw [← en_take, ← en_take (zs.drop _)]
  congr 1
  apply List.ext_getElem?
  intro j
  by_cases hj : j < 16
  · rw [List.getElem?_take_of_lt hj, List.getElem?_take_of_lt hj, List.getElem?_drop, List.getElem?_drop]
    unfold setE
    by_cases hlt : k < i
    · rw [List.append_assoc, List.getElem?_append_left (by simp; omega), List.getElem?_take_of_lt (by omega)]
    · rw [List.getElem?_append_right (by simp [ebs_len]; omega), List.getElem?_drop]
      congr 1
      simp [ebs_len]; omega
  · rw [List.getElem?_eq_none (by simp; omega), List.getElem?_eq_none (by simp; omega)]

/-- The first n entries of a row, laid one behind the other into zeros. -/
def pkN (A : Nat → En) : Nat → List Nat
  | 0 => List.replicate 256 0
  | n + 1 => setE (pkN A n) n (A n)
theorem pkN_len (A : Nat → En) : ∀ n, n ≤ 16 → (pkN A n).length = 256
  | 0, _ => List.length_replicate
  | n + 1, h => by
    have ih := pkN_len A n (by omega)
    rw [pkN, setE_len _ (by omega), ih]
theorem pkN_lt (A : Nat → En) : ∀ n, ∀ z ∈ pkN A n, z < 256
  | 0 => fun z hz => by
    have := List.eq_of_mem_replicate hz
    omega
  | n + 1 => setE_lt _ (pkN_lt A n)
theorem pkN_eq (A : Nat → En) : ∀ n, n ≤ 16 → pkN A n = (List.range n).flatMap (fun i => ebs (A i)) ++ List.replicate (256 - 16 * n) 0
  | 0, _ => rfl
  | n + 1, h => by
    have hl : ∀ m, ((List.range m).flatMap (fun i => ebs (A i))).length = 16 * m := by
      intro m
      induction m with
      | zero => rfl
      | succ m ih => rw [List.range_succ, List.flatMap_append, List.length_append, ih]; simp [ebs_len]; omega
    rw [pkN, pkN_eq A n (by omega), setE, List.range_succ, List.flatMap_append]
    have h1 := hl n
    generalize (List.range n).flatMap (fun i => ebs (A i)) = L at *
    have e1 : (L ++ List.replicate (256 - 16 * n) 0).take (16 * n) = L := by rw [List.take_append_of_le_length (by omega), List.take_of_length_le (by omega)]
    have e2 : (L ++ List.replicate (256 - 16 * n) 0).drop (16 * n + 16) = List.replicate (256 - 16 * (n + 1)) 0 := by
      rw [List.drop_append, List.drop_of_length_le (by omega), List.nil_append, List.drop_replicate, h1]
      congr 1
      omega
    rw [e1, e2]
    simp
theorem atE_pk (A : Nat → En) (hA : ∀ i, (A i).ok) : ∀ n, n ≤ 16 → ∀ i, i < 16 → atE (pkN A n) i = if i < n then A i else ⟨0, 0, 0⟩
  | 0, _, i, hi => by
    have e : (List.replicate 256 0).drop (16 * i) = ebs ⟨0, 0, 0⟩ ++ List.replicate (240 - 16 * i) 0 := by
      have e0 : ebs ⟨0, 0, 0⟩ = List.replicate 16 0 := by decide
      rw [e0, List.drop_replicate, List.replicate_append_replicate]
      congr 1
      omega
    simp only [atE, pkN, e, Nat.not_lt_zero, if_false]
    exact en_ebs _ ⟨by decide, by decide, by decide⟩ _
  | n + 1, h, i, hi => by
    have hl := pkN_len A n (by omega)
    by_cases he : i = n
    · subst he
      rw [pkN, atE_set (hA i) (by omega), if_pos (by omega)]
    · rw [pkN, atE_other _ (by omega) he, atE_pk A hA n (by omega) i hi]
      by_cases hlt : i < n
      · rw [if_pos hlt, if_pos (by omega)]
      · rw [if_neg hlt, if_neg (by omega)]
/-- What is opened and packed again is what it was. -/
theorem pk_at {zs : List Nat} (hz : ∀ z ∈ zs, z < 256) (hl : zs.length = 256) : pkN (fun i => atE zs i) 16 = zs := by
  have key : ∀ n, n ≤ 16 → pkN (fun i => atE zs i) n = zs.take (16 * n) ++ List.replicate (256 - 16 * n) 0 := by
    intro n
    induction n with
    | zero => intro _; rfl
    | succ n ih =>
      intro h
      rw [pkN, ih (by omega), setE]
      have h1 : (zs.take (16 * n)).length = 16 * n := by simp; omega
      have e1 : (zs.take (16 * n) ++ List.replicate (256 - 16 * n) 0).take (16 * n) = zs.take (16 * n) := by rw [List.take_append_of_le_length (by omega), List.take_of_length_le (by omega)]
      have e2 : (zs.take (16 * n) ++ List.replicate (256 - 16 * n) 0).drop (16 * n + 16) = List.replicate (256 - 16 * (n + 1)) 0 := by
        rw [List.drop_append, List.drop_of_length_le (by omega), List.nil_append, List.drop_replicate, h1]
        congr 1
        omega
      have e3 : ebs (atE zs n) = (zs.drop (16 * n)).take 16 := ebs_en (fun z h => hz z (List.mem_of_mem_drop h)) (by rw [List.length_drop]; omega)
      rw [e1, e2, e3, show 16 * (n + 1) = 16 * n + 16 by omega, List.take_add]
  rw [key 16 (Nat.le_refl _)]
  simp [List.take_of_length_le (show zs.length ≤ 256 by omega)]
end Go.Proofs.Ytlfppgdaoijklaa
