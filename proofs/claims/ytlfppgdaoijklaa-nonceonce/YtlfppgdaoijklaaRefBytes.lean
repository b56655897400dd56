/- The reference's bytes: Same, Copy, Lent, Kept. -/
import Derived.Test.YtlfppgdaoijklaaBytes
import Derived.Deep.QuietTactic
import Derived.BigQuiet
import Derived.RegionTactic
namespace Go.Proofs.Ytlfppgdaoijklaa
open Go.RowKit

theorem u8info : (Try.prog.info? 5).map (fun i => (i.zero, i.size, i.bytes)) = some (some (.int .u8 0), 1, 1) := by kernel_rfl

theorem take_next' (l : List Nat) (k : Nat) (h : k < l.length) : l.take (k + 1) = l.take k ++ [l.getD k 0] := by
  rw [List.take_succ_eq_append_getElem h]; simp [List.getD, List.getElem?_eq_getElem h]
theorem getD_of_eq {l m : List Nat} (h : l = m) (i : Nat) : l.getD i 0 = m.getD i 0 := by rw [h]
theorem eq_of_getD {l m : List Nat} {n : Nat} (h1 : l.length = n) (h2 : m.length = n) (h : l.take n = m.take n) : l = m := by
  rw [List.take_of_length_le (by omega), List.take_of_length_le (by omega)] at h; exact h

theorem cell_new (w : World) (v : Value) (T : TypeId) : ∀ j u, [v][j]? = some u → (w.alloc (.cells #[v] T)).cell? ((⟨w.heap.size, 0, none⟩ : Addr).add j) = some u := by
  intro j u h
  rcases j with _ | j
  · simp at h; subst h; simp [go_sem]
  · simp at h
theorem cell_new3 (w : World) (x y z : Nat) (T : TypeId) : ∀ j u, (u8s [x, y, z])[j]? = some u → (w.alloc (.cells #[.int .u8 (x : Nat), .int .u8 (y : Nat), .int .u8 (z : Nat)] T)).cell? ((⟨w.heap.size, 0, none⟩ : Addr).add j) = some u := by
  intro j u h
  match j, h with
  | 0, h => simp [u8s] at h; subst h; simp [go_sem, Addr.add]
  | 1, h => simp [u8s] at h; subst h; simp [go_sem, Addr.add]
  | 2, h => simp [u8s] at h; subst h; simp [go_sem, Addr.add]
  | j + 3, h => simp [u8s] at h
/-- One byte more behind own bytes. -/
theorem Ow.push {w w' : World} {base : Nat} {v : Value} {zs : List Nat} {y : Nat} (h : Ow w base v zs) (hy : y < 256) (hl : zs.length + 1 ≤ 281474976710656) {v' : Value} (h' : w'.ownsRow base 5 1 v' (zs.length + 1) (u8s zs ++ [.int .u8 (y : Nat)])) : Ow w' base v' (zs ++ [y]) := by
  refine ⟨?_, by simpa using hl, ?_⟩
  · intro z hz
    rcases List.mem_append.1 hz with hz | hz
    · exact h.lt z hz
    · simp at hz; subst hz; exact hy
  · have e : u8s (zs ++ [y]) = u8s zs ++ [.int .u8 (y : Nat)] := by simp [u8s]
    rw [e, List.length_append]; exact h'
theorem Ow.alloc {w : World} {base : Nat} {v : Value} {zs : List Nat} (h : Ow w base v zs) (o : Obj) : Ow (w.alloc o) base v zs := ⟨h.lt, h.len, h.own.alloc o⟩


theorem Bs.gen {w : World} {v : Value} {xs : List Nat} (h : Bs w v xs) : ∃ ao cap, v = .slice ao xs.length cap ∧ (ao = none → xs.length = 0 ∧ cap = 0) ∧
    ∀ ad, ao = some ad → ∀ j u, (u8s xs)[j]? = some u → w.cell? (ad.add j) = some u := by
  obtain ⟨_, _, ⟨rfl, rfl | ⟨a, cap, rfl⟩⟩ | ⟨h0, b, off, cap, rfl, hcap, _, hc⟩⟩ := h
  · exact ⟨none, 0, rfl, fun _ => ⟨rfl, rfl⟩, fun ad h => by cases h⟩
  · exact ⟨some a, cap, rfl, fun h => (by cases h), fun ad _ j u h => by simp [u8s] at h⟩
  · refine ⟨_, _, rfl, fun h => (by cases h), ?_⟩
    rintro ad ⟨⟩ j u hj
    have hjl : j < xs.length := by
      have := (List.getElem?_eq_some_iff.1 hj).1
      simpa [u8s] using this
    rw [u8s_get xs j hjl] at hj
    have e : (⟨b, off, none⟩ : Addr).add j = ⟨b, off + j, none⟩ := by simp [Addr.add]
    rw [e, hc j hjl]; exact hj
theorem Bs.cells {w : World} {ao : Option Addr} {n cap : Nat} {xs : List Nat} (h : Bs w (.slice ao n cap) xs) : ∀ ad, ao = some ad → ∀ j u, (u8s xs)[j]? = some u → w.cell? (ad.add j) = some u := by
  obtain ⟨ao', cap', e, _, h3⟩ := h.gen
  simp only [Value.slice.injEq] at e
  obtain ⟨rfl, _, _⟩ := e
  exact h3
theorem Bs.grown {w w' : World} {row : Option Nat} {v : Value} {xs : List Nat} (h : Bs w v xs) (hg : w.grownBy w' row) (hr : ∀ k, row = some k → v.ownBlock ≠ some k) : Bs w' v xs :=
  h.keep hg.size fun k e hk => hg.block k hk (fun e' => hr k e'.symm e)
theorem u8s_append (xs ys : List Nat) : u8s (xs ++ ys) = u8s xs ++ u8s ys := by simp [u8s]


end Go.Proofs.Ytlfppgdaoijklaa
