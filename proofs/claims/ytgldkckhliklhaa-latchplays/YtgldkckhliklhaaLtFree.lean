/- latch: Free. -/
import Derived.Test.YtgldkckhliklhaaLtLeft
import Derived.Test.YtgldkckhliklhaaSortRow
import Derived.Test.YtgldkckhliklhaaNumsMore
namespace Go.Proofs.Ytgldkckhliklhaa
open Go.RowKit Go.Maps

theorem next_nil {w : World} {g : Nat} (h : w.heap[g]? = some (.mapIter none 0 #[] 0)) (ty : TypeId) : (Instr.next (.pointer (some ⟨g, 0, none⟩)) false ty).run Try.prog w = .ok (.tuple #[.bool false]) w := by
  have hg : (getObj g).run Try.prog w = .ok (.mapIter none 0 #[] 0) w := by simp [getObj, Sem.run, h]
  simp [Instr.next, hg, Result.andThen]
/-- What Free leaves. -/
def FreeTo (w : World) (own : Owner) (gt : Nat) (s : Ls) (t : Int) (e : Ending) (w' : World) : Prop := ∃ v, e = .returned v ∧ ∃ G0 s0 E G s' own', Lv s t G0 s0 ∧ Dr t s0 E G s' ∧ E.Perm (s0.has.filter (fun x => x.1 == t)) ∧ Am t s' s'.has [] ∧ Lt w' own' gt s' ∧ Nums w' v (srt ((G0 ++ G).map (·.1))) ∧ (∀ b, v.ownBlock = some b → w.heap.size ≤ b ∧ own' b = .none) ∧ Sub w own own' ∧ But (Wo own) w w'
section
variable {w w' wr : World} {own own' ownr : Owner} {gt gl gh gw r mb : Nat} {lb hb : Int → Nat} {KL TL : List Int} {c : Lc} {s s0 S : Ls} {R : Nat → Prop} {T : Tag} {t : Int} {G0 E G H lf Ea : List Wt} {rv : Value}
theorem Lth.but (h : Lth w own gt s H) (k : But R w w') (hr : ∀ b, own b ≠ .none → ¬ R b) : Lth w' own gt s H := by
  obtain ⟨a1, a2, a3, a4, a5, a6, a7, h⟩ := h
  exact ⟨a1, a2, a3, a4, a5, a6, a7, h.but k hr⟩
/-- The end: the sort. -/
theorem free_done (hv : Lv s t G0 s0) (hd : Dr t s0 E G S) (hp : E.Perm (s0.has.filter (fun x => x.1 == t))) (ha : Am t S H []) (hl : Lth wr ownr gt S H) (hrow : wr.ownsRow 0 3 1 rv (G0 ++ G).length (numv ((G0 ++ G).map (·.1)))) (hi : ∀ x ∈ G0 ++ G, i64 x.1) (hn : (G0 ++ G).length ≤ 10000) (hrn : ∀ b, rv.ownBlock = some b → w.heap.size ≤ b ∧ ownr b = .none) (hs : Sub w own ownr) (hb : But (Wo own) w wr) :
    Calls Try.prog 24 #[rv] wr (fun e w' => e = .returned (.tuple #[]) ∧ FreeTo w own gt s t (.returned rv) w') := by
  have hrow' : wr.ownsRow 0 3 1 rv ((G0 ++ G).map (·.1)).length (numv ((G0 ++ G).map (·.1))) := by rw [List.length_map]; exact hrow
  refine Calls.mono (sort_row hrow' (fun x hx => by obtain ⟨y, hy, rfl⟩ := List.mem_map.1 hx; exact hi y hy) (by rw [List.length_map]; omega)) ?_
  rintro e w' ⟨rfl, hnum, hbw⟩
  have hl' := hl.but hbw (fun b hb e => hb (hrn b e).2)
  have hmem : ∀ x, x ∈ S.has ↔ x ∈ H := fun x => by rw [ha.mem x]; simp
  refine ⟨rfl, rv, rfl, G0, s0, E, G, S, ownr, hv, hd, hp, ⟨ha.ok, fun x => by simp, fun x hx => ha.nh x ((hmem x).1 hx), fun x hx => absurd hx List.not_mem_nil, ha.nq, ha.sum, List.nodup_nil⟩, ?_, hnum, hrn, hs, hb.then hbw (fun b hb e => by have := (hrn b e).1; omega)⟩
  obtain ⟨a1, a2, a3, a4, a5, a6, a7, h⟩ := hl'
  exact ⟨a1, a2, a3, a4, a5, a6, a7, h.hmAs (H := S.has) hmem⟩
/-- Amid the range. -/
structure FrI (w : World) (own : Owner) (gt : Nat) (s : Ls) (t : Int) (r mb : Nat) (G0 : List Wt) (s0 : Ls) (wr : World) (rv : Value) (E G H lf : List Wt) (S : Ls) (ownr : Owner) : Prop where
  lv : Lv s t G0 s0
  am : Am t S H lf
  dr : Dr t s0 E G S
  pm : (E ++ lf).Perm (s0.has.filter (fun x => x.1 == t))
  lt : Lth wr ownr gt S H
  rg : Ranged 3 wr r mb (fun x : Wt => iv x.2.1) (fun x => iv (mode x)) (s0.has.filter (fun x => x.1 == t)) lf
  rw : wr.ownsRow 0 3 1 rv (G0 ++ G).length (numv ((G0 ++ G).map (·.1)))
  rn : ∀ b, rv.ownBlock = some b → w.heap.size ≤ b ∧ ownr b = .none ∧ b ≠ r ∧ b ≠ mb
  ir : ∀ x ∈ G0 ++ G, i64 x.1
  nr : (G0 ++ G).length + S.q.length ≤ 10000
  or' : ownr r = .none
  om : ownr mb = .none
  rr : w.heap.size ≤ r
  sub : Sub w own ownr
  but : But (Wo own) w wr
/-- A round, in memory. -/
theorem FrI.step {k : Int} {al : Bool} {lf' G1 : List Wt} {S1 : Ls} {own5 : Owner} {w3 w4 w5 w7 : World} {v7 : Value} (h : FrI w own gt s t r mb G0 s0 wr rv E G H lf S ownr) (hperm : lf.Perm ((t, k, al) :: lf')) (hb3 : But (· = r) wr w3) (hR3 : Ranged 3 w3 r mb (fun x : Wt => iv x.2.1) (fun x => iv (mode x)) (s0.has.filter (fun x => x.1 == t)) lf')
    (hb4 : But (Wo ownr) w3 w4) (hst : Steps (· = k) (S.drop t k) G1 S1) (hsb : Stb S1 k) (hl5 : Lth w5 own5 gt S1 (H ++ G1)) (hs5 : Sub w4 ownr own5) (hb5 : But (Wo ownr) w4 w5) (hap : Appd w5 w7 3 1 rv v7 ((G0 ++ G).length + (G1.map (·.1)).length) (numv ((G0 ++ G).map (·.1)) ++ numv (G1.map (·.1)))) :
    FrI w own gt s t r mb G0 s0 w7 v7 (E ++ [(t, k, al)]) (G ++ G1) (H ++ G1) lf' S1 own5 := by
  obtain ⟨amd, hxS⟩ := (h.am.perm hperm).drop
  have hlt := h.rg.lt
  have z3 := hb3.size
  have z4 := hb4.size
  have z5 := hb5.size
  have nn : ∀ b, b < wr.heap.size → ownr b = .none → own5 b = .none := fun b hb e => by
    cases h9 : own5 b with
    | none => rfl
    | _ =>
      exfalso
      rcases hs5 b (by rw [h9]; exact fun e => nomatch e) with h1 | h1
      · exact h1 e
      · omega
  have hrb : ∀ b, rv.ownBlock = some b → own5 b = .none := fun b hb => nn b (h.rw.lt b hb).2 (h.rn b hb).2.1
  have hr0 : own5 r = .none := nn r hlt.1 h.or'
  have hm0 : own5 mb = .none := nn mb hlt.2.1 h.om
  have k35 : But (Wo ownr) w3 w5 := hb4.trans hb5
  have hsum := steps_sum hst
  have hq0 : (S.drop t k).q.length = S.q.length := rfl
  refine ⟨h.lv, amd.steps hst, .snoc h.dr hxS hst hsb, ?_, hl5.but hap.but (fun b hb e => hb (hrb b e)), ?_, ?_, fun b hb => ?_, fun x hx => ?_, ?_, hr0, hm0, h.rr, (fun b hb => ?_), ?_⟩
  · refine List.Perm.trans ?_ h.pm
    rw [List.append_assoc]
    exact (List.Perm.append_left E (by simpa using hperm.symm))
  · exact (hR3.but k35 (fun e => e h.or') (fun e => e h.om)).but hap.but (fun e => (h.rn r e).2.2.1 rfl) (fun e => (h.rn mb e).2.2.2 rfl)
  · have h1 := hap.own
    rw [← List.append_assoc, List.length_append, List.map_append, show numv ((G0 ++ G).map (·.1) ++ G1.map (·.1)) = numv ((G0 ++ G).map (·.1)) ++ numv (G1.map (·.1)) by simp [numv]]
    rw [List.length_map] at h1
    exact h1
  · rcases hap.at' with e | e
    · rw [e] at hb
      exact ⟨(h.rn b hb).1, hrb b hb, (h.rn b hb).2.2.1, (h.rn b hb).2.2.2⟩
    · rw [e] at hb
      have h1 := Option.some.inj hb
      have h2 := h.but.size
      obtain ⟨a1, a2, a3, a4, a5, a6, a7, hm5⟩ := hl5
      exact ⟨by omega, hm5.top b (by omega), by omega, by omega⟩
  · rw [← List.append_assoc] at hx
    rcases List.mem_append.1 hx with h1 | h1
    · exact h.ir x h1
    · exact (amd.ok.iq x ((steps_q hst).2 x h1)).1
  · have := h.nr
    rw [← List.append_assoc, List.length_append]
    omega
  · rcases hs5 b hb with h1 | h1
    · exact h.sub b h1
    · have := h.but.size
      exact .inr (by omega)
  · refine ((h.but.then hb3 (fun b hb e => by have := h.rr; omega)).then k35 (fun b hb e => ?_)).then hap.but (fun b hb e => by have := (h.rn b e).1; omega)
    rcases h.sub b e with h1 | h1
    · exact h1
    · omega
end
end Go.Proofs.Ytgldkckhliklhaa
