/- A map's keys as the library's shelf reads them, whatever its values are. -/
import Derived.Test.YtehajgfjdmhdpaaMapOf
import Derived.Test.YtehajgfjdmhdpaaIntKit
import Derived.Test.YtehajgfjdmhdpaaSortInts
import Derived.Shelf.SlIterI.Nil
namespace Go.Proofs.Ytehajgfjdmhdpaa
open Go.RowKit Go.Maps Go.Sort Go.Shelf

def anyR (_ : Value) : Option (DataW Unit × List MemPlace) := some (.lit (.bool true), [])
theorem insert_perm {H : Type} (x : Lit × DataW H) : ∀ l : List (Lit × DataW H), (DataW.insert x l).Perm (x :: l)
  | [] => by unfold DataW.insert; exact List.Perm.refl _
  | y :: r => by
    unfold DataW.insert
    split
    · exact List.Perm.refl _
    · exact ((insert_perm x r).cons y).trans (List.Perm.swap _ _ _)
theorem foldr_perm {H : Type} : ∀ l : List (Lit × DataW H), (l.foldr DataW.insert []).Perm l
  | [] => List.Perm.refl _
  | x :: l => (insert_perm x _).trans ((foldr_perm l).cons x)
/-- A map's keys as the shelf reads them. -/
theorem MapOf.owns {w : World} {b : Nat} {vv : Int → Value} {l : List Int} (h : MapOf 3 w b iv vv l) (hn : l.Nodup) (hl : l.length ≤ 1000000) : ∃ D : DataW Unit, w.ownsMap Try.prog 3 anyR b l.length D ∧ (intKeys D).Perm l ∧ Maps.size D = l.length := by
  obtain ⟨M, h1, h2, h3⟩ := h
  have hkn : (l.map iv).Nodup := nodup_map (fun _ _ _ _ e => iv_inj e) hn
  have hsz := MapOf.size h1 h2 h3 hkn
  have hap := h1.apart
  have hky := h1.key
  obtain ⟨es, clock, hb, rfl, hbo, hnd⟩ := h1.blk
  have hesz : es.size = l.length := by rw [← hsz]; simp
  have hfit : WideElems.Fit Try.prog 3 anyR es clock := ⟨by unfold maxLen; omega, (MapKept.stamped_iff es clock).2 ⟨hbo, hnd, (List.pairwise_map.1 hap).imp (fun h => h)⟩, fun x hx => by
    obtain ⟨lt, hlt⟩ := hky (x.key, x.val) (List.mem_map.2 ⟨x, hx, rfl⟩)
    exact ⟨_, WideElems.rd_mk (born := x.born) hlt (yv := (.lit (.bool true), [])) rfl⟩⟩
  have hmap : (es.toList.map (WideElems.rg Try.prog 3 anyR)).map (fun p => Go.intOf p.1) = (es.toList.map fun e => (e.key, e.val)).map (fun p => match p.1 with | .int _ a => a | _ => 0) := by
    rw [List.map_map, List.map_map]
    apply List.map_congr_left
    intro x hx
    obtain ⟨k, hk, e⟩ := h2 (x.key, x.val) (List.mem_map.2 ⟨x, hx, rfl⟩)
    have e1 : x.key = iv k := (Prod.mk.inj e).1
    obtain ⟨lt, hlt⟩ := hky (x.key, x.val) (List.mem_map.2 ⟨x, hx, rfl⟩)
    obtain ⟨y, ey, rfl, -⟩ := Maps.keyOf_i64 Try.underlying3 hlt
    have hrd : WideElems.rd Try.prog 3 anyR x = some (.int .i64 y, .lit (.bool true)) := WideElems.rd_mk (born := x.born) hlt (yv := (.lit (.bool true), [])) rfl
    simp only [Function.comp]
    rw [WideElems.rg_of hrd]
    simp only at ey
    rw [ey]
    rfl
  refine ⟨_, ⟨es, clock, hb, hfit, by omega, rfl⟩, ?_, ?_⟩
  · show List.Perm (List.map _ _) _
    refine ((foldr_perm _).map _).trans ?_
    rw [hmap]
    have hkk : ((es.toList.map fun e => (e.key, e.val)).map (fun p : Value × Value => match p.1 with | .int _ a => a | _ => 0)).Nodup := by
      refine List.pairwise_map.2 (hap.imp_of_mem (fun {p q} hp hq hne e => hne ?_))
      obtain ⟨a, -, rfl⟩ := h2 p hp
      obtain ⟨c, -, rfl⟩ := h2 q hq
      simp only at e
      rw [e]
    refine (List.perm_ext_iff_of_nodup hkk hn).2 (fun x => ⟨fun hx => ?_, fun hx => ?_⟩)
    · obtain ⟨p, hp, rfl⟩ := List.mem_map.1 hx
      obtain ⟨a, ha, rfl⟩ := h2 p hp
      exact ha
    · exact List.mem_map.2 ⟨_, h3 x hx, rfl⟩
  · show List.length _ = _
    rw [(foldr_perm _).length_eq, List.length_map]
    simpa using hesz
theorem nodup_inj {α β : Type} {f : α → β} : ∀ {l : List α}, (l.map f).Nodup → ∀ {x y : α}, x ∈ l → y ∈ l → f x = f y → x = y
  | [], _, _, _, h, _, _ => by cases h
  | a :: l, hn, x, y, hx, hy, e => by
    rw [List.map_cons, List.nodup_cons] at hn
    rcases List.mem_cons.1 hx with h1 | h1
    · rcases List.mem_cons.1 hy with h2 | h2
      · rw [h1, h2]
      · exact absurd (List.mem_map.2 ⟨y, h2, by rw [← e, h1]⟩) hn.1
    · rcases List.mem_cons.1 hy with h2 | h2
      · exact absurd (List.mem_map.2 ⟨x, h1, by rw [e, h2]⟩) hn.1
      · exact nodup_inj hn.2 h1 h2 e
section
variable {w : World}
/-- A map told by its keys alone. -/
theorem MapOf.keysOf {α : Type} {kt : TypeId} {b : Nat} {kv vv : α → Value} {f : α → Int} {l : List α} (h : MapOf kt w b kv vv l) (hk : ∀ x ∈ l, kv x = iv (f x)) (hn : (l.map f).Nodup) : ∃ vv' : Int → Value, MapOf kt w b iv vv' (l.map f) := by
  refine ⟨fun k => match l.find? (fun x => f x == k) with | some x => vv x | none => undef, ?_⟩
  have key : ∀ x ∈ l, (match l.find? (fun y => f y == f x) with | some x => vv x | none => undef) = vv x := fun x hx => by
    cases e : l.find? (fun y => f y == f x) with
    | none => exact absurd (List.find?_eq_none.1 e x hx) (by simp)
    | some y =>
      have h1 := List.mem_of_find?_eq_some e
      have h2 := List.find?_some e
      have h3 : f y = f x := by simpa using h2
      rw [nodup_inj hn h1 hx h3]
  obtain ⟨M, h1, h2, h3⟩ := h
  refine ⟨M, h1, fun p hp => ?_, fun k hkk => ?_⟩
  · obtain ⟨x, hx, e⟩ := h2 p hp
    exact ⟨f x, List.mem_map.2 ⟨x, hx, rfl⟩, by rw [e, hk x hx]; exact Prod.ext rfl (key x hx).symm⟩
  · obtain ⟨x, hx, rfl⟩ := List.mem_map.1 hkk
    have h4 := h3 x hx
    rw [hk x hx, ← key x hx] at h4
    exact h4
end
end Go.Proofs.Ytehajgfjdmhdpaa
