/- The reference's Join. -/
import Derived.Test.YtmilmaljahjgeaaDoorShaOf
namespace Go.Proofs.YtmilmaljahjgeaaDoor
open Go.RowKit

/-- append, by what it was seen to give. -/
theorem wpList_append_seen {w w' : World} {ops : Array Oper} {rest : List Oper} {o : Oper} {a : Act} {Q : Exit → Act → World → Prop} (hgd : o.guard = none) (s x : Operand) (t : TypeId)
    (ho : o.op = .call { callee := .builtin .append, args := #[s, x], argTypes := #[t, t] }) (vs vx : Value) (hs : a.eval s = vs) (hx : a.eval x = vx) {v' : Value}
    (hr : (Builtin.append_ #[t, t] o.type #[vs, vx]).run Tryd.prog w = .ok v' w')
    (h : wpList Tryd.prog ops Q rest (a.put o.dst v') w') : wpList Tryd.prog ops Q (o :: rest) a w :=
  wpList_plain hgd fun _ hK => by
    unfold Oper.wp execOp
    simp only [ho, resolve, invoke, builtin, Sem.run_bind, Sem.run_pure, Result.andThen_ok, List.map_toArray, List.map_cons, List.map_nil, hs, hx, hr]
    exact hK _ _ h

/-- Bytes behind bytes that are the call's own. -/
theorem append_bytes {w : World} {base : Nat} {v u : Value} {zs ys : List Nat} (ty : TypeId) (hv : Ow w base v zs) (hu : Bs w u ys) (hl : zs.length + ys.length ≤ 140737488355328) (hb : base ≤ w.heap.size) :
    ∃ v' w', (Builtin.append_ #[22, 22] ty #[v, u]).run Tryd.prog w = .ok v' w' ∧ Ow w' base v' (zs ++ ys) ∧ w.grownBy w' v.ownBlock := by
  obtain ⟨i0, hi, hz0, hz1, hz2⟩ := info_parts u8info
  have hlt : ∀ z ∈ zs ++ ys, z < 256 := by
    intro z hz
    rcases List.mem_append.1 hz with h | h
    · exact hv.lt z h
    · exact hu.1 z h
  obtain ⟨ao, cap, rfl, hnone, hcells⟩ := hu.gen
  cases ao with
  | none =>
    have hy : ys = [] := List.eq_nil_of_length_eq_zero (hnone rfl).1
    subst hy
    obtain rfl : cap = 0 := (hnone rfl).2
    have hr := run_append_owned_none (P := Tryd.prog) w base 22 ty 5 i0 1 Tryd.underlying22 hi _ zs.length (u8s zs) hv.own
    exact ⟨v, w, hr, by simpa using hv, World.grownBy.refl _ _⟩
  | some ad =>
    obtain ⟨v', w', hr, ho, hg, _⟩ := run_append_own (P := Tryd.prog) w base 22 ty 5 i0 _ 1 1 Tryd.underlying22 hi hz0 hz1 hz2 rfl (by decide) v zs.length (u8s zs) hv.own ad ys.length cap (u8s ys) (by simp [u8s]) (hcells ad rfl) (u8s_one _) (by unfold maxLen; omega) (by omega) hb
    refine ⟨v', w', hr, ⟨hlt, by simp; omega, ?_⟩, hg⟩
    rw [List.length_append, u8s_append]; exact ho

set_option maxRecDepth 100000 in
set_option maxHeartbeats 1000000 in
theorem join_any {w : World} {p : Value} {xss : List (List Nat)} (hp : Ps w p xss) (hl : xss.flatten.length ≤ 1048576) (hx : xss.length ≤ 140737488351232) :
    Calls Tryd.prog 14 #[p] w fun e w' => ∃ v', e = .returned v' ∧ Ow w' w.heap.size v' xss.flatten ∧ Below w.heap.size w w' := by
  obtain ⟨ao, cap, rfl, hps⟩ := hp.gen
  have HPS := Hid.mk' hps
  obtain ⟨n, hn⟩ : ∃ n, n = xss.length := ⟨_, rfl⟩
  obtain ⟨F, hF⟩ : ∃ F : Nat → List Nat, F = fun k => (xss.take k).flatten := ⟨_, rfl⟩
  obtain ⟨G, hG⟩ : ∃ G : Nat → List Nat, G = fun k => xss.getD k [] := ⟨_, rfl⟩
  have HF : Hid (∀ k, k < n → F (k + 1) = F k ++ G k) := by rw [hF, hG]; intro k hk; exact flat_next xss k (by omega)
  have HF0 : Hid (F 0 = []) := by rw [hF]; rfl
  have HFE : Hid (F n = xss.flatten) := by show _ = _; rw [hF, hn]; simp
  have HFB : Hid (∀ k, (F k).length ≤ 1048576) := by rw [hF]; intro k; exact Nat.le_trans (flat_le xss k) hl
  have HPG : Hid (0 < n → ∃ b off, ao = some ⟨b, off, none⟩ ∧ b < w.heap.size ∧ ∀ i, i < n → ∃ u, w.cell? ⟨b, off + i, none⟩ = some u ∧ Bs w u (G i)) := by rw [hn, hG]; exact HPS.out
  rw [← hn, ← HFE.out]
  rw [← hn] at hx
  clear hp hps HPS hF hG HFE hn hl
  go_enter Tryd.func14, Tryd.ntmps14
  go_wp2
  go_loopw [3, 4] (fun s i wr => ∃ k : Nat, k ≤ n ∧ i = .int .i64 k ∧ Ow wr w.heap.size s (F k) ∧ Below w.heap.size w wr) (fun _ i _ => n - (intOf i).toNat)
  case atStart => exact ⟨0, Nat.zero_le _, rfl, by rw [HF0.out]; exact Ow.nil _ _, Below.refl _ _⟩
  case round =>
    obtain ⟨k, hkn, rfl, ho, hbel⟩ := hrel
    have hsz := hbel.size
    by_cases hlt : k < n
    · have hlti : (k : Int) < (n : Int) := by omega
      obtain ⟨b, off, rfl, hb, hc⟩ := HPG.out (by omega)
      obtain ⟨u, hu, hbs⟩ := hc k hlt
      have hu' : wr.cell? ⟨b, off + k, none⟩ = some u := (hbel.cell (by exact hb)).trans hu
      have hbs' : Bs wr u (G k) := hbs.below hbel
      have hlen := HFB.out (k + 1)
      rw [HF.out k hlt, List.length_append] at hlen
      obtain ⟨v', w', hr, hown, hgr⟩ := append_bytes 22 ho hbs' (by omega) hsz
      rw [← HF.out k hlt] at hown
      have HR := Hid.mk' hr
      have HOW := Hid.mk' hown
      have HB : Hid (Below w.heap.size w w') := hbel.grown hgr (by omega) (fun j hj => (ho.ge j hj).1)
      obtain ⟨au, cu, rfl, -, -⟩ := hbs.gen
      clear hu hbs hbs' hlen hc hr hown hgr hbel ho
      go_wp2_with (at_builtin; refine wpList_append_seen rfl _ _ 22 rfl _ _ rfl rfl HR.out ?_)
      refine ⟨⟨k + 1, by omega, by go_num, HOW.out, HB.out⟩, by simp [intOf]; omega⟩
    · have hge : ¬ ((k : Int) < (n : Int)) := by omega
      obtain rfl : k = n := by omega
      go_wp2
      go_ret
      exact ⟨_, rfl, ho, hbel⟩
end Go.Proofs.YtmilmaljahjgeaaDoor
