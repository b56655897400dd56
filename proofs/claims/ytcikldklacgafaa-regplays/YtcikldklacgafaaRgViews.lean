/- What a walk is told of states, and of acts, that came in. -/
import Derived.Test.YtcikldklacgafaaRgAwake
import Derived.ProofKit
import Derived.OpenShut
import Derived.ChangeOld
import Derived.Below
namespace Go.Proofs.Ytcikldklacgafaa
open Go.ChangeShapes Go.WideShapes Go.ChangeAt Go.RowKit Go.Deep

/-- An act: kind, number, state. -/
structure RA where
  kind : Int
  n : Int
  S : Stt
def racells (a : RA) : List Value := .int .i64 a.kind :: .int .i64 a.n :: scells a.S
structure RAct (w : World) (b o : Nat) (a : RA) : Prop where
  rk : -9223372036854775808 ≤ a.kind ∧ a.kind ≤ 9223372036854775807
  rn : -9223372036854775808 ≤ a.n ∧ a.n ≤ 9223372036854775807
  ok : a.S.ok
  cell : ∀ c u, (racells a)[c]? = some u → w.cell? ⟨b, o + c, none⟩ = some u
def RActs (w : World) (v : Value) (n : Nat) (A : Nat → RA) : Prop :=
  n ≤ 140737488351232 ∧ ((n = 0 ∧ ∃ ao cap, v = .slice ao 0 cap) ∨ (0 < n ∧ ∃ b off cap, v = .slice (some ⟨b, off, none⟩) n cap ∧ b < w.heap.size ∧ ∀ i, i < n → RAct w b (off + i * 74) (A i)))
section
variable {H : Type} {enc : TypeId × Value → H} {w : World} {base : Nat} {spare : Nat → Bool} {held : Bool}
theorem mapM_eachR {α β : Type} {f : α → Option β} : ∀ (L : List α) (xs : List β), L.mapM f = some xs → ∀ a ∈ L, ∃ y, f a = some y
  | [], _, _, a, ha => by cases ha
  | b :: L, xs, h, a, ha => by
    rw [List.mapM_cons] at h
    simp only [bind, Option.bind_eq_some_iff, pure, Option.some.injEq] at h
    obtain ⟨y, hy, ys, hys, rfl⟩ := h
    rcases List.mem_cons.1 ha with rfl | ha
    · exact ⟨y, hy⟩
    · exact mapM_eachR L ys hys a ha
theorem nat_of_u8R {b : Int} (h : (Lit.int .u8 b).wf = true) : ∃ x : Nat, b = (x : Int) ∧ x < 256 := by
  have h1 : IntKind.u8.min ≤ b ∧ b ≤ IntKind.u8.max := by simpa [Lit.wf] using h
  have e1 : IntKind.u8.min = 0 := rfl
  have e2 : IntKind.u8.max = 255 := rfl
  exact ⟨b.toNat, by omega, by omega⟩
theorem trod_u8sR {t : TypeId} {n m : Nat} {cs : List Value} {d : DataW H × List MemPlace} (hu : Try.prog.underlying t = some (.array n 5)) (hct : Try.prog.cellsOf t = n) (h : DataW.trod enc Try.prog w base spare held m t cs = some d) (hl : cs.length = n) : ∃ D : List Nat, cs = u8s D ∧ D.length = n ∧ ∀ z ∈ D, z < 256 := by
  have hc : Try.prog.cellsOf 5 = 1 := by kernel_rfl
  cases m with
  | zero => simp [DataW.trod] at h
  | succ m =>
    rw [DataW.trod_step] at h
    unfold DataW.trodStep at h
    simp only [hu] at h
    rw [if_pos (by rw [hct]; exact hl)] at h
    simp only [Option.map_eq_some_iff] at h
    obtain ⟨xs, hxs, _⟩ := h
    have hel : ∀ i, i < n → ∃ x : Nat, cs[i]? = some (.int .u8 (x : Int)) ∧ x < 256 := by
      intro i hi
      obtain ⟨y, hy⟩ := mapM_eachR _ _ hxs i (by simpa using hi)
      obtain ⟨b, hb, _, hw⟩ := DataW.trod_int Try.underlying5 hy
      obtain ⟨x, rfl, hx⟩ := nat_of_u8R hw
      refine ⟨x, ?_, hx⟩
      rw [hc, Nat.mul_one] at hb
      have hlt : i < cs.length := by omega
      rw [List.drop_eq_getElem_cons hlt, List.take_succ_cons, List.take_zero] at hb
      simp only [List.cons.injEq, and_true] at hb
      rw [List.getElem?_eq_getElem hlt, hb]
    obtain ⟨B, hB⟩ := choose_lt (α := Nat) (p := fun i x => cs[i]? = some (.int .u8 (x : Int)) ∧ x < 256) hel
    refine ⟨(List.range n).map B, ?_, by simp, fun z hz => ?_⟩
    · apply List.ext_getElem?
      intro i
      by_cases hi : i < n
      · rw [(hB i hi).1]; simp [u8s, hi]
      · rw [List.getElem?_eq_none (by omega), List.getElem?_eq_none (by simp [u8s]; omega)]
    · obtain ⟨i, hi, rfl⟩ := List.mem_map.1 hz
      exact (hB i (by simpa using hi)).2
theorem wf_i64 {z : Int} (h : (Lit.int .i64 z).wf = true) : -9223372036854775808 ≤ z ∧ z ≤ 9223372036854775807 := by
  have h1 : IntKind.i64.min ≤ z ∧ z ≤ IntKind.i64.max := by simpa [Lit.wf, go_sem] using h
  have e1 : IntKind.i64.min = -9223372036854775808 := rfl
  have e2 : IntKind.i64.max = 9223372036854775807 := rfl
  omega
theorem wf_u32 {z : Int} (h : (Lit.int .u32 z).wf = true) : 0 ≤ z ∧ z ≤ 4294967295 := by
  have h1 : IntKind.u32.min ≤ z ∧ z ≤ IntKind.u32.max := by simpa [Lit.wf, go_sem] using h
  have e1 : IntKind.u32.min = 0 := rfl
  have e2 : IntKind.u32.max = 4294967295 := rfl
  omega
theorem wf_u64 {z : Int} (h : (Lit.int .u64 z).wf = true) : 0 ≤ z ∧ z ≤ 18446744073709551615 := by
  have h1 : IntKind.u64.min ≤ z ∧ z ≤ IntKind.u64.max := by simpa [Lit.wf, go_sem] using h
  have e1 : IntKind.u64.min = 0 := rfl
  have e2 : IntKind.u64.max = 18446744073709551615 := rfl
  omega
theorem Sst : Try.prog.underlying 26 = some (.struct #[⟨ "Pages", 3, 0, false, "", "", 0⟩, ⟨ "Budget", 3, 1, false, "", "", 8⟩, ⟨ "Wide", 4, 2, false, "", "", 16⟩, ⟨ "Boot", 22, 3, false, "", "", 20⟩, ⟨ "Version", 23, 4, false, "", "", 24⟩, ⟨ "Epoch", 22, 5, false, "", "", 32⟩, ⟨ "Cursor", 3, 6, false, "", "", 40⟩, ⟨ "Busy", 4, 7, false, "", "", 48⟩, ⟨ "Root", 24, 8, false, "", "", 49⟩, ⟨ "Mark", 24, 40, false, "", "", 81⟩]) := by kernel_rfl
set_option maxRecDepth 100000 in
theorem trod_state {m : Nat} {cs : List Value} {x : DataW H × List MemPlace} (h : DataW.trod enc Try.prog w base spare held m 26 cs = some x) (hl : cs.length = 72) : ∃ S : Stt, cs = scells S ∧ S.ok := by
  obtain ⟨xs, nn, _, -, _, hxl, hf⟩ := DataW.trod_struct Sst h
  match xs, hxl with
  | [x0, x1, x2, x3, x4, x5, x6, x7, x8, x9], _ =>
    have c3 : Try.prog.cellsOf 3 = 1 := by kernel_rfl
    have c4 : Try.prog.cellsOf 4 = 1 := by kernel_rfl
    have c22 : Try.prog.cellsOf 22 = 1 := by kernel_rfl
    have c23 : Try.prog.cellsOf 23 = 1 := by kernel_rfl
    have c24 : Try.prog.cellsOf 24 = 32 := by kernel_rfl
    have g0 : DataW.trod enc Try.prog w base spare held nn 3 ((cs.drop 0).take (Try.prog.cellsOf 3)) = some x0 := hf 0 _ rfl
    have g1 : DataW.trod enc Try.prog w base spare held nn 3 ((cs.drop 1).take (Try.prog.cellsOf 3)) = some x1 := hf 1 _ rfl
    have g2 : DataW.trod enc Try.prog w base spare held nn 4 ((cs.drop 2).take (Try.prog.cellsOf 4)) = some x2 := hf 2 _ rfl
    have g3 : DataW.trod enc Try.prog w base spare held nn 22 ((cs.drop 3).take (Try.prog.cellsOf 22)) = some x3 := hf 3 _ rfl
    have g4 : DataW.trod enc Try.prog w base spare held nn 23 ((cs.drop 4).take (Try.prog.cellsOf 23)) = some x4 := hf 4 _ rfl
    have g5 : DataW.trod enc Try.prog w base spare held nn 22 ((cs.drop 5).take (Try.prog.cellsOf 22)) = some x5 := hf 5 _ rfl
    have g6 : DataW.trod enc Try.prog w base spare held nn 3 ((cs.drop 6).take (Try.prog.cellsOf 3)) = some x6 := hf 6 _ rfl
    have g7 : DataW.trod enc Try.prog w base spare held nn 4 ((cs.drop 7).take (Try.prog.cellsOf 4)) = some x7 := hf 7 _ rfl
    have g8 : DataW.trod enc Try.prog w base spare held nn 24 ((cs.drop 8).take (Try.prog.cellsOf 24)) = some x8 := hf 8 _ rfl
    have g9 : DataW.trod enc Try.prog w base spare held nn 24 ((cs.drop 40).take (Try.prog.cellsOf 24)) = some x9 := hf 9 _ rfl
    rw [c3] at g0 g1 g6
    rw [c4] at g2 g7
    rw [c22] at g3 g5
    rw [c23] at g4
    rw [c24] at g8 g9
    match cs, hl with
    | a0 :: a1 :: a2 :: a3 :: a4 :: a5 :: a6 :: a7 :: t, hl =>
      have ht : t.length = 64 := by simpa using hl
      have k0 : DataW.trod enc Try.prog w base spare held nn 3 [a0] = some x0 := g0
      obtain ⟨z0, e0, _, w0⟩ := DataW.trod_int Try.underlying3 k0
      have k1 : DataW.trod enc Try.prog w base spare held nn 3 [a1] = some x1 := g1
      obtain ⟨z1, e1, _, w1⟩ := DataW.trod_int Try.underlying3 k1
      have k2 : DataW.trod enc Try.prog w base spare held nn 4 [a2] = some x2 := g2
      obtain ⟨z2, e2, _⟩ := DataW.trod_bool Try.underlying4 k2
      have k3 : DataW.trod enc Try.prog w base spare held nn 22 [a3] = some x3 := g3
      obtain ⟨z3, e3, _, w3⟩ := DataW.trod_int Try.underlying22 k3
      have k4 : DataW.trod enc Try.prog w base spare held nn 23 [a4] = some x4 := g4
      obtain ⟨z4, e4, _, w4⟩ := DataW.trod_int Try.underlying23 k4
      have k5 : DataW.trod enc Try.prog w base spare held nn 22 [a5] = some x5 := g5
      obtain ⟨z5, e5, _, w5⟩ := DataW.trod_int Try.underlying22 k5
      have k6 : DataW.trod enc Try.prog w base spare held nn 3 [a6] = some x6 := g6
      obtain ⟨z6, e6, _, w6⟩ := DataW.trod_int Try.underlying3 k6
      have k7 : DataW.trod enc Try.prog w base spare held nn 4 [a7] = some x7 := g7
      obtain ⟨z7, e7, _⟩ := DataW.trod_bool Try.underlying4 k7
      have k8 : DataW.trod enc Try.prog w base spare held nn 24 (t.take 32) = some x8 := g8
      have k9 : DataW.trod enc Try.prog w base spare held nn 24 ((t.drop 32).take 32) = some x9 := g9
      rw [List.take_of_length_le (by rw [List.length_drop]; omega)] at k9
      obtain ⟨D, hD, hDl, hDb⟩ := trod_u8sR Try.underlying24 c24 k8 (by rw [List.length_take]; omega)
      obtain ⟨E, hE, hEl, hEb⟩ := trod_u8sR Try.underlying24 c24 k9 (by rw [List.length_drop]; omega)
      simp only [List.cons.injEq, and_true] at e0 e1 e2 e3 e4 e5 e6 e7
      refine ⟨⟨z0, z1, z2, z3, z4, z5, z6, z7, D, E⟩, ?_, ⟨wf_i64 w0, wf_i64 w1, wf_u32 w3, wf_u64 w4, wf_u32 w5, wf_i64 w6, hDl, hEl, hDb, hEb⟩⟩
      rw [e0, e1, e2, e3, e4, e5, e6, e7]
      show _ = (.int .i64 z0 :: .int .i64 z1 :: .bool z2 :: .int .u32 z3 :: .int .u64 z4 :: .int .u32 z5 :: .int .i64 z6 :: .bool z7 :: (u8s D ++ u8s E) : List Value)
      rw [← hD, ← hE, List.take_append_drop]
theorem view_state {v : Value} {d : DataW H} {ps : List MemPlace} {r : Reach} {b0 : Nat} {ts : List TypeId} {ds : List (DataW H)} {j : Nat}
    (hval : Value.okWide Try.prog w r b0 26 v) (h : DataW.Trod enc Try.prog w base spare held 26 v d ps) (_ : ∀ x ∈ ps, x.block < w.heap.size)
    (_ : (DataW.weightsEach Try.prog ts ds).all (· ≤ reachBytes) = true) (_ : ts[j]? = some 26) (_ : ds[j]? = some d) : ∃ S : Stt, v = .agg (scells S).toArray ∧ S.ok := by
  obtain ⟨cs, rfl, hs⟩ := okWide_struct Sst hval
  obtain ⟨fuel, hf1⟩ := h
  have c72 : Try.prog.cellsOf 26 = 72 := by kernel_rfl
  rw [c72] at hs
  obtain ⟨S, e, h1⟩ := trod_state hf1 (by simpa [Value.cells] using hs)
  refine ⟨S, ?_, h1⟩
  have e' : cs.toList = scells S := e
  rw [← e']
theorem Ast : Try.prog.underlying 41 = some (.struct #[⟨ "Kind", 3, 0, false, "", "", 0⟩, ⟨ "N", 3, 1, false, "", "", 8⟩, ⟨ "S", 26, 2, false, "", "", 16⟩]) := by kernel_rfl
set_option maxRecDepth 100000 in
theorem trod_ract {m : Nat} {cs : List Value} {x : DataW H × List MemPlace} (h : DataW.trod enc Try.prog w base spare held m 41 cs = some x) (hl : cs.length = 74) : ∃ F : RA, cs = racells F ∧ (-9223372036854775808 ≤ F.kind ∧ F.kind ≤ 9223372036854775807) ∧ (-9223372036854775808 ≤ F.n ∧ F.n ≤ 9223372036854775807) ∧ F.S.ok := by
  obtain ⟨xs, nn, _, -, _, hxl, hf⟩ := DataW.trod_struct Ast h
  match xs, hxl with
  | [x0, x1, x2], _ =>
    have c3 : Try.prog.cellsOf 3 = 1 := by kernel_rfl
    have c26 : Try.prog.cellsOf 26 = 72 := by kernel_rfl
    have g0 : DataW.trod enc Try.prog w base spare held nn 3 ((cs.drop 0).take (Try.prog.cellsOf 3)) = some x0 := hf 0 _ rfl
    have g1 : DataW.trod enc Try.prog w base spare held nn 3 ((cs.drop 1).take (Try.prog.cellsOf 3)) = some x1 := hf 1 _ rfl
    have g2 : DataW.trod enc Try.prog w base spare held nn 26 ((cs.drop 2).take (Try.prog.cellsOf 26)) = some x2 := hf 2 _ rfl
    rw [c3] at g0 g1
    rw [c26] at g2
    match cs, hl with
    | a0 :: a1 :: t, hl =>
      have ht : t.length = 72 := by simpa using hl
      have k0 : DataW.trod enc Try.prog w base spare held nn 3 [a0] = some x0 := g0
      have k1 : DataW.trod enc Try.prog w base spare held nn 3 [a1] = some x1 := g1
      have k2 : DataW.trod enc Try.prog w base spare held nn 26 (t.take 72) = some x2 := g2
      rw [List.take_of_length_le (by omega)] at k2
      obtain ⟨z0, e0, _, w0⟩ := DataW.trod_int Try.underlying3 k0
      obtain ⟨z1, e1, _, w1⟩ := DataW.trod_int Try.underlying3 k1
      obtain ⟨S, hS, hok⟩ := trod_state k2 ht
      simp only [List.cons.injEq, and_true] at e0 e1
      refine ⟨⟨z0, z1, S⟩, ?_, wf_i64 w0, wf_i64 w1, hok⟩
      rw [e0, e1, hS]
      rfl
set_option maxRecDepth 100000 in
theorem view_racts {v : Value} {d : DataW H} {ps : List MemPlace} {r : Reach} {b0 : Nat} {ts : List TypeId} {ds : List (DataW H)} {j : Nat}
    (hval : Value.okWide Try.prog w r b0 31 v) (h : DataW.Trod enc Try.prog w base spare held 31 v d ps) (hlt : ∀ x ∈ ps, x.block < w.heap.size)
    (hsz : (DataW.weightsEach Try.prog ts ds).all (· ≤ reachBytes) = true) (ht : ts[j]? = some 31) (hd : ds[j]? = some d) : ∃ n A, RActs w v n A := by
  have hu := Try.underlying31
  have hce : Try.prog.cellsOf 41 = 74 := by kernel_rfl
  have hbe : 1 ≤ Try.prog.bytesOf 41 := of_decide_eq_true (by kernel_rfl)
  obtain ⟨a0, len, cap, rfl⟩ := okWide_slice hu hval
  obtain ⟨fuel, hfu⟩ := h
  rcases open_slice hu hfu with ⟨hcs, _⟩ | ⟨a, len', cap', m, n, D, Pl, hcs, _, hl, hm, hmm, hx, hel⟩
  · simp [Value.cells] at hcs
    obtain ⟨rfl, rfl, rfl⟩ := hcs
    exact ⟨0, fun _ => ⟨0, 0, Stt.zero⟩, by omega, .inl ⟨rfl, _, _, rfl⟩⟩
  · simp [Value.cells] at hcs
    obtain ⟨rfl, rfl, rfl⟩ := hcs
    simp only [Prod.mk.injEq] at hx
    obtain ⟨rfl, rfl⟩ := hx
    have hlm : len ≤ m := by rw [hmm]; split <;> omega
    have hreach : len ≤ 140737488351232 := by
      have h1 := sized_slice hsz ht hd hu
      simp only [List.length_map, List.length_range, reachBytes] at h1
      have h2 : len + (m - len) ≤ (len + (m - len)) * Try.prog.bytesOf 41 := Nat.le_mul_of_pos_right _ hbe
      omega
    have hfl : ∀ i, i < len → ∃ F : RA, (∀ c u, (racells F)[c]? = some u → w.cell? (a.add (i * 74 + c)) = some u) ∧ (-9223372036854775808 ≤ F.kind ∧ F.kind ≤ 9223372036854775807) ∧ (-9223372036854775808 ≤ F.n ∧ F.n ≤ 9223372036854775807) ∧ F.S.ok := by
      intro i hi
      obtain ⟨cs', h1, h2⟩ := hel i (by omega)
      rw [hce] at h1
      obtain ⟨_, hlen, hcell⟩ := World.cells?_some h1
      obtain ⟨F, hc, h3⟩ := trod_ract h2 hlen
      refine ⟨F, fun c u hcu => ?_, h3⟩
      rw [← hc] at hcu
      have hlt' : c < 74 := by
        rcases Nat.lt_or_ge c 74 with h | h
        · exact h
        · rw [List.getElem?_eq_none (by omega)] at hcu; cases hcu
      have := hcell c hlt'
      rw [add_add] at this
      exact this.trans hcu
    haveI : Inhabited RA := ⟨⟨0, 0, Stt.zero⟩⟩
    obtain ⟨F, hF⟩ := choose_lt (α := RA) (p := fun i F => (∀ c u, (racells F)[c]? = some u → w.cell? (a.add (i * 74 + c)) = some u) ∧ (-9223372036854775808 ≤ F.kind ∧ F.kind ≤ 9223372036854775807) ∧ (-9223372036854775808 ≤ F.n ∧ F.n ≤ 9223372036854775807) ∧ F.S.ok) hfl
    refine ⟨len, F, hreach, ?_⟩
    by_cases h0 : len = 0
    · subst h0; exact .inl ⟨rfl, _, _, rfl⟩
    · right
      obtain ⟨b, off, spot⟩ := a
      have hspot : spot = none := by
        obtain ⟨hc, _⟩ := hF 0 (by omega)
        have := World.cell?_spot (hc 0 _ rfl)
        simpa [Addr.add] using this
      subst hspot
      refine ⟨by omega, b, off, cap, rfl, hlt (.cell b off) (List.mem_append_left _ (MemPlace.mem_row.2 ⟨0, ?_, by simp⟩)), fun i hi => ?_⟩
      · rw [hce]; omega
      · obtain ⟨hc, h1, h2, h3⟩ := hF i hi
        refine ⟨h1, h2, h3, fun c u hcu => ?_⟩
        rw [Nat.add_assoc, ← add_plain]; exact hc c u hcu
end
end Go.Proofs.Ytcikldklacgafaa
