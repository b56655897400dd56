/- What a Commit writes, as a set: the program's way and the reference's come to the same. -/
import Derived.Test.YtidblaepklgkcaaPlNeed
import Derived.Test.YtidblaepklgkcaaPlTree
namespace Go.Proofs.Ytidblaepklgkcaa
open Go.RowKit

theorem mem_adds {S ds : List Int} {y : Int} : y ∈ adds S ds ↔ y ∈ S ∨ y ∈ ds := by
  induction ds generalizing S with
  | nil => unfold adds; simp
  | cons x t ih =>
    show y ∈ adds (ins S x) t ↔ _
    rw [ih, mem_ins, List.mem_cons, or_assoc]
theorem adds_nodup {S : List Int} (h : S.Nodup) : ∀ ds : List Int, (adds S ds).Nodup := fun ds => by
  induction ds generalizing S with
  | nil => exact h
  | cons x t ih => exact ih (ins_nodup h x)
/-- What a Commit of these pages writes. -/
def Wr (p : Pn) (xs : List Int) (y : Int) : Prop := ∃ x ∈ xs, p.has x = true ∧ (y = x ∨ y ∈ p.path x)
theorem Wr.more {p : Pn} {xs : List Int} {x y : Int} : Wr p (xs ++ [x]) y ↔ Wr p xs y ∨ (p.has x = true ∧ (y = x ∨ y ∈ p.path x)) := by
  unfold Wr
  constructor
  · rintro ⟨z, hz, h⟩
    rcases List.mem_append.1 hz with hz | hz
    · exact .inl ⟨z, hz, h⟩
    · rw [show z = x by simpa using hz] at h
      exact .inr h
  · rintro (⟨z, hz, h⟩ | h)
    · exact ⟨z, List.mem_append_left _ hz, h⟩
    · exact ⟨x, by simp, h⟩
theorem path_nodup {p : Pn} (hm : Mad p) {x : Int} (hx : p.has x = true) {A B : List Int} {y : Int} (h : p.path x = A ++ y :: B) : y ∉ A := fun hy => by
  obtain ⟨A1, A2, rfl⟩ := List.append_of_mem hy
  have hc := (hm.path hx).1
  rw [h] at hc
  have h1 := chn_at hc
  rw [List.append_assoc, List.cons_append] at hc
  have h2 := chn_at hc
  have h3 := congrArg List.length (chn_det h1 h2)
  rw [List.length_append, List.length_cons] at h3
  omega
theorem path_meet {p : Pn} (hm : Mad p) {x x' : Int} (hx : p.has x = true) (hx' : p.has x' = true) {A B : List Int} {y : Int} (h : p.path x = A ++ y :: B) (hy : y ∈ p.path x') : ∀ z ∈ B, z ∈ p.path x' := fun z hz => by
  obtain ⟨A', B', h'⟩ := List.append_of_mem hy
  have hc := (hm.path hx).1
  have hc' := (hm.path hx').1
  rw [h] at hc
  rw [h'] at hc'
  rw [h', ← chn_det (chn_at hc) (chn_at hc')]
  exact List.mem_append_right _ (List.mem_cons_of_mem _ hz)
theorem run_mem {S P : List Int} (hcl : ∀ A y B, P = A ++ y :: B → y ∈ S → ∀ z ∈ B, z ∈ S) (hnd : ∀ A y B, P = A ++ y :: B → y ∉ A) : ∀ (l ds : List Int), P = ds ++ l → ∀ z, z ∈ adds S (runB (more S) ds l) ↔ z ∈ S ∨ z ∈ P
  | [], ds, h, z => by
    rw [List.append_nil] at h
    show z ∈ adds S ds ↔ _
    rw [mem_adds, h]
  | y :: t, ds, h, z => by
    rw [runB_cons]
    unfold more
    by_cases hy : y ∈ adds S ds
    · rw [decide_eq_true hy, if_neg (by decide), mem_adds]
      have hyS : y ∈ S := by
        rcases mem_adds.1 hy with h1 | h1
        · exact h1
        · exact absurd h1 (hnd ds y t h)
      constructor
      · rintro (h1 | h1)
        · exact .inl h1
        · rw [h]
          rcases List.mem_append.1 h1 with h1 | h1
          · exact .inr (List.mem_append_left _ h1)
          · exact .inr (List.mem_append_right _ (by rw [show z = y by simpa using h1]; exact List.mem_cons_self))
      · rintro (h1 | h1)
        · exact .inl h1
        · rw [h] at h1
          rcases List.mem_append.1 h1 with h1 | h1
          · exact .inr (List.mem_append_left _ h1)
          · rcases List.mem_cons.1 h1 with rfl | h1
            · exact .inl hyS
            · exact .inl (hcl ds y t h hyS z h1)
    · rw [decide_eq_false hy, if_pos (by decide)]
      exact run_mem hcl hnd t (ds ++ [y]) (by rw [h, List.append_assoc]; rfl) z
def raddP (p : Pn) (S : List Int) (x : Int) : List Int := if p.has x then adds S (p.path x ++ [x]) else S
/-- A list that has just what is written, each once. -/
def Just (p : Pn) (xs S : List Int) : Prop := S.Nodup ∧ ∀ y, y ∈ S ↔ Wr p xs y
theorem Just.nil (p : Pn) : Just p [] [] := ⟨List.nodup_nil, fun _ => ⟨fun h => absurd h List.not_mem_nil, fun ⟨_, h, _⟩ => absurd h List.not_mem_nil⟩⟩
theorem Just.radd {p : Pn} {xs S : List Int} (h : Just p xs S) (x : Int) : Just p (xs ++ [x]) (raddP p S x) := by
  unfold raddP
  cases hx : p.has x with
  | false =>
    rw [if_neg (by decide)]
    refine ⟨h.1, fun y => ?_⟩
    rw [Wr.more, hx, h.2 y]
    simp
  | true =>
    rw [if_pos rfl]
    refine ⟨adds_nodup h.1 _, fun y => ?_⟩
    rw [Wr.more, hx, mem_adds, h.2 y, List.mem_append, List.mem_singleton]
    constructor
    · rintro (h1 | h1 | h1)
      · exact .inl h1
      · exact .inr ⟨rfl, .inr h1⟩
      · exact .inr ⟨rfl, .inl h1⟩
    · rintro (h1 | ⟨-, h1 | h1⟩)
      · exact .inl h1
      · exact .inr (.inr h1)
      · exact .inr (.inl h1)
theorem Just.add {p : Pn} (hm : Mad p) {xs S : List Int} (h : Just p xs S) (x : Int) : Just p (xs ++ [x]) (addP p S x) := by
  unfold addP
  cases hx : p.has x with
  | false =>
    rw [if_neg (by decide)]
    refine ⟨h.1, fun y => ?_⟩
    rw [Wr.more, hx, h.2 y]
    simp
  | true =>
    rw [if_pos rfl]
    refine ⟨adds_nodup (ins_nodup h.1 x) _, fun y => ?_⟩
    have hx0 := of_decide_eq_true hx
    rw [run_mem (P := p.path x) (fun A z B he hz u hu => ?_) (fun A z B he => path_nodup hm hx he) (p.path x) [] rfl y, mem_ins, Wr.more, hx, h.2 y]
    · constructor
      · rintro ((h1 | h1) | h1)
        · exact .inl h1
        · exact .inr ⟨rfl, .inl h1⟩
        · exact .inr ⟨rfl, .inr h1⟩
      · rintro (h1 | ⟨-, h1 | h1⟩)
        · exact .inl (.inl h1)
        · exact .inl (.inr h1)
        · exact .inr h1
    · have hge : ∀ q ∈ p.path x, p.pages ≤ q := fun q hq => ((hm.path hx).2.ge q hq).1
      have hzp : p.pages ≤ z := hge z (by rw [he]; simp)
      rcases mem_ins.1 hz with hz | hz
      · obtain ⟨x', hx', h1, h2⟩ := (h.2 z).1 hz
        have h3 := of_decide_eq_true h1
        rcases h2 with h2 | h2
        · omega
        · exact mem_ins.2 (.inl ((h.2 u).2 ⟨x', hx', h1, .inr (path_meet hm hx h1 he h2 u hu)⟩))
      · omega
theorem just_fold {p : Pn} {f : List Int → Int → List Int} (hf : ∀ xs S x, Just p xs S → Just p (xs ++ [x]) (f S x)) : ∀ (l xs S : List Int), Just p xs S → Just p (xs ++ l) (l.foldl f S)
  | [], xs, S, h => by rw [List.append_nil]; exact h
  | x :: l, xs, S, h => by
    have := just_fold hf l (xs ++ [x]) (f S x) (hf xs S x h)
    rw [List.append_assoc] at this
    exact this
theorem just_add {p : Pn} (hm : Mad p) (xs : List Int) : Just p xs (xs.foldl (addP p) []) := just_fold (fun _ _ x h => h.add hm x) xs [] [] (Just.nil p)
theorem just_radd (p : Pn) (xs : List Int) : Just p xs (xs.foldl (raddP p) []) := just_fold (fun _ _ x h => h.radd x) xs [] [] (Just.nil p)
theorem Just.le {p : Pn} {xs ys S T : List Int} (h : Just p xs S) (k : Just p ys T) (hs : ∀ y, Wr p xs y → Wr p ys y) : S.length ≤ T.length := nodup_len h.1 (fun y hy => (k.2 y).2 (hs y ((h.2 y).1 hy)))
theorem need_same {p : Pn} (hm : Mad p) (xs : List Int) : (xs.foldl (addP p) []).length = (xs.foldl (raddP p) []).length :=
  Nat.le_antisymm ((just_add hm xs).le (just_radd p xs) (fun _ h => h)) ((just_radd p xs).le (just_add hm xs) (fun _ h => h))
end Go.Proofs.Ytidblaepklgkcaa
