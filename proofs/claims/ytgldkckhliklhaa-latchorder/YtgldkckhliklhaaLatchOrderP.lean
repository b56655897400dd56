/- Of tasks that ask for one latch each has it in the order in which they asked, as the one ahead lets it go: for any key, any byte, any modes. No condition. -/
import Derived.Test.YtgldkckhliklhaaLtView
import Derived.Deep.Cut
namespace Go.Proofs.Ytgldkckhliklhaa
open Go.ChangeShapes Go.WideShapes Go.ChangeAt Go.RowKit Go.Maps

/-- These tasks, with their modes. -/
def oL (key : Int) (m : Nat → Bool) (lo n : Nat) : List Wt := (List.range' lo n).map (fun j => (((j : Nat) : Int), key, m j))
theorem ls_of {s : Ls} {H Q : List Wt} (h1 : s.has = H) (h2 : s.q = Q) : s = Ls.mk H Q := by cases s; subst h1 h2; rfl
section
variable {key : Int} {m : Nat → Bool} {lo n a b k nx N : Nat} {x : Wt} {s s' : Ls} {G : List Wt}
theorem oL_mem : x ∈ oL key m lo n ↔ ∃ j, (lo ≤ j ∧ j < lo + n) ∧ x = ((j : Int), key, m j) := by
  unfold oL
  rw [List.mem_map]
  constructor
  · rintro ⟨j, hj, rfl⟩
    rw [List.mem_range'_1] at hj
    exact ⟨j, hj, rfl⟩
  · rintro ⟨j, hj, rfl⟩
    exact ⟨j, by rw [List.mem_range'_1]; exact hj, rfl⟩
theorem oL_len : (oL key m lo n).length = n := by unfold oL; simp
theorem oL_append : oL key m lo (a + b) = oL key m lo a ++ oL key m (lo + a) b := by
  unfold oL
  rw [← List.map_append, List.range'_append_1]
theorem oL_succ : oL key m lo (n + 1) = ((lo : Int), key, m lo) :: oL key m (lo + 1) n := by unfold oL; rw [List.range'_succ]; rfl
theorem oL_snoc : oL key m lo (n + 1) = oL key m lo n ++ [(((lo + n : Nat) : Int), key, m (lo + n))] := by rw [oL_append]; rfl
theorem oL_woN (h : k < lo) : wo k (oL key m lo n) = oL key m lo n := wo_self (fun y hy => by
  obtain ⟨j, hj, rfl⟩ := oL_mem.1 hy
  show (j : Int) ≠ k
  omega)
theorem oL_wo : wo k (oL key m k (n + 1)) = oL key m (k + 1) n := by
  rw [oL_succ]
  unfold wo
  rw [List.filter_cons, if_neg (by simp)]
  exact oL_woN (Nat.lt_succ_self k)
theorem oL_take (h : a ≤ n) : (oL key m lo n).take a = oL key m lo a := by
  obtain ⟨r, rfl⟩ : ∃ r, n = a + r := ⟨n - a, by omega⟩
  rw [oL_append, List.take_left' oL_len]
theorem gr_prefix : ∀ (l H : List Wt), ∃ r, l = gr l H ++ r
  | [], _ => ⟨[], rfl⟩
  | x :: l, H => by
    unfold gr
    split
    · obtain ⟨r, hr⟩ := gr_prefix l (H ++ [x])
      exact ⟨r, by rw [List.cons_append, ← hr]⟩
    · exact ⟨x :: l, rfl⟩
theorem nin_oL (h : a ≤ n) : nin (oL key m lo a) (oL key m lo n) = oL key m (lo + a) (n - a) := by
  obtain ⟨r, rfl⟩ : ∃ r, n = a + r := ⟨n - a, by omega⟩
  rw [Nat.add_sub_cancel_left, oL_append]
  unfold nin
  rw [List.filter_append, List.filter_eq_nil_iff.2 (fun y hy => ?_), List.filter_eq_self.2 (fun y hy => ?_), List.nil_append]
  · obtain ⟨j, hj, rfl⟩ := oL_mem.1 hy
    rw [Bool.not_eq_true', List.any_eq_false]
    intro z hz
    obtain ⟨i, hi, rfl⟩ := oL_mem.1 hz
    show ¬ ((i : Int) == (j : Int)) = true
    rw [beq_iff_eq]
    omega
  · rw [Bool.not_eq_true', Bool.not_eq_false, List.any_eq_true]
    exact ⟨y, hy, beq_self_eq_true _⟩
/-- Numbers from lo on. -/
def ups (lo n : Nat) : List Int := (List.range' lo n).map (fun j => ((j : Nat) : Int))
theorem ups_len : (ups lo n).length = n := by unfold ups; simp
theorem ups_get (h : k < n) : (ups lo n).getD k 0 = ((lo : Int) + (k : Int)) := by
  unfold ups
  rw [List.getD_eq_getElem?_getD, List.getElem?_map, List.getElem?_range' h]
  simp
theorem ups_i64 (h : lo + n ≤ 100) : ∀ x ∈ ups lo n, -9223372036854775808 ≤ x ∧ x ≤ 9223372036854775807 := by
  intro x hx
  unfold ups at hx
  obtain ⟨j, hj, rfl⟩ := List.mem_map.1 hx
  rw [List.mem_range'_1] at hj
  omega
theorem srt_ups : srt ((oL key m lo n).map (·.1)) = ups lo n := by
  have h : (oL key m lo n).map (·.1) = ups lo n := by unfold oL ups; rw [List.map_map]; rfl
  rw [h]
  refine List.mergeSort_of_pairwise ?_
  unfold ups
  rw [List.pairwise_map]
  refine (List.pairwise_lt_range' (s := lo) (n := n)).imp (fun h => ?_)
  rw [decide_eq_true_eq]
  omega
theorem or_free (hok : Lok (Ls.mk (oL key m k (n + 1)) (oL key m nx (N + 1)))) (hst : ∀ j, Stb (Ls.mk (oL key m k (n + 1)) (oL key m nx (N + 1))) j) (hk : k < nx) (h : Fre (Ls.mk (oL key m k (n + 1)) (oL key m nx (N + 1))) k G s') :
    (1 ≤ n → G = [] ∧ s' = Ls.mk (oL key m (k + 1) n) (oL key m nx (N + 1))) ∧ (n = 0 → ∃ g, 1 ≤ g ∧ g ≤ N + 1 ∧ G = oL key m nx g ∧ s' = Ls.mk (oL key m nx g) (oL key m (nx + g) (N + 1 - g))) := by
  have hkey : ∀ y ∈ oL key m nx (N + 1), y.2.1 = key := fun y hy => by obtain ⟨j, -, rfl⟩ := oL_mem.1 hy; rfl
  have hG : G = gr (oL key m nx (N + 1)) (oL key m (k + 1) n) := by
    have h1 := fre_one h (k := key) hkey
    rw [show wo (k : Int) (Ls.mk (oL key m k (n + 1)) (oL key m nx (N + 1))).q = oL key m nx (N + 1) from oL_woN hk, show wo (k : Int) (Ls.mk (oL key m k (n + 1)) (oL key m nx (N + 1))).has = oL key m (k + 1) n from oL_wo] at h1
    exact h1
  refine ⟨fun hn => ?_, fun hn => ?_⟩
  · have hq : (Ls.mk (oL key m k (n + 1)) (oL key m nx (N + 1))).qk key = ((nx : Int), key, m nx) :: oL key m (nx + 1) N := by
      unfold Ls.qk
      rw [← oL_succ]
      exact List.filter_eq_self.2 (fun y hy => by simpa using hkey y hy)
    have hm := hst key _ _ hq
    have hx : m nx = true := by
      cases e : m nx with
      | true => rfl
      | false =>
        rw [mayG_iff.2 (fun y hy e2 => ⟨?_, e⟩)] at hm
        · cases hm
        · cases e3 : y.2.2 with
          | false => rfl
          | true =>
            have h1 := hok.al y hy ((k : Int), key, m k) (oL_mem.2 ⟨k, ⟨Nat.le_refl _, by omega⟩, rfl⟩) e2 e3
            have h2 := hok.al y hy (((k + 1 : Nat) : Int), key, m (k + 1)) (oL_mem.2 ⟨k + 1, ⟨by omega, by omega⟩, rfl⟩) e2 e3
            rw [h1] at h2
            simp only [Prod.mk.injEq] at h2
            omega
    have hm2 : mayG (oL key m (k + 1) n) ((nx : Int), key, m nx) = false := by
      cases e : mayG (oL key m (k + 1) n) ((nx : Int), key, m nx) with
      | false => rfl
      | true =>
        have := (mayG_iff.1 e (((k + 1 : Nat) : Int), key, m (k + 1)) (oL_mem.2 ⟨k + 1, ⟨Nat.le_refl _, by omega⟩, rfl⟩) rfl).2
        rw [hx] at this
        cases this
    have hG0 : G = [] := by
      rw [hG, oL_succ]
      unfold gr
      rw [if_neg (by rw [hm2]; decide)]
    subst hG0
    refine ⟨rfl, ?_⟩
    have h1 := h.has
    have h2 := h.q
    rw [List.append_nil, show wo (k : Int) (Ls.mk (oL key m k (n + 1)) (oL key m nx (N + 1))).has = oL key m (k + 1) n from oL_wo] at h1
    rw [nin_nil, show wo (k : Int) (Ls.mk (oL key m k (n + 1)) (oL key m nx (N + 1))).q = oL key m nx (N + 1) from oL_woN hk] at h2
    exact ls_of h1 h2
  · subst hn
    obtain ⟨r, hr⟩ := gr_prefix (oL key m nx (N + 1)) (oL key m (k + 1) 0)
    rw [← hG] at hr
    have hlen : G.length ≤ N + 1 := by
      have := congrArg List.length hr
      rw [oL_len, List.length_append] at this
      omega
    have hGe : G = oL key m nx G.length := by rw [← oL_take hlen, hr, List.take_left' rfl]
    have hg1 : 1 ≤ G.length := by
      have h3 := hG
      rw [oL_succ] at h3
      unfold gr at h3
      rw [if_pos (show mayG (oL key m (k + 1) 0) ((nx : Int), key, m nx) = true from mayG_iff.2 (fun y hy => nomatch hy))] at h3
      rw [h3]
      simp
    refine ⟨G.length, hg1, hlen, hGe, ?_⟩
    have h1 := h.has
    have h2 := h.q
    rw [show wo (k : Int) (Ls.mk (oL key m k (0 + 1)) (oL key m nx (N + 1))).has = [] from oL_wo, List.nil_append] at h1
    rw [show wo (k : Int) (Ls.mk (oL key m k (0 + 1)) (oL key m nx (N + 1))).q = oL key m nx (N + 1) from oL_woN hk, hGe, nin_oL hlen] at h2
    exact ls_of (h1.trans hGe) h2
theorem or_ask : (Ls.mk (oL key m 0 1) (oL key m 1 n)).busy (((n + 1 : Nat) : Int), key, m (n + 1)) = false ∧ (m 0 = true → (Ls.mk (oL key m 0 1) (oL key m 1 n)).got (((n + 1 : Nat) : Int), key, m (n + 1)) = false ∧ (Ls.mk (oL key m 0 1) (oL key m 1 n)).askc (((n + 1 : Nat) : Int), key, m (n + 1)) = 0 ∧ (Ls.mk (oL key m 0 1) (oL key m 1 n)).asked (((n + 1 : Nat) : Int), key, m (n + 1)) = Ls.mk (oL key m 0 1) (oL key m 1 (n + 1))) := by
  have hb : (Ls.mk (oL key m 0 1) (oL key m 1 n)).busy (((n + 1 : Nat) : Int), key, m (n + 1)) = false := by
    unfold Ls.busy
    rw [hold_none (fun x hx e => ?_), show (Ls.mk (oL key m 0 1) (oL key m 1 n)).wait (((n + 1 : Nat) : Int), key, m (n + 1)).1 = false from ?_]
    · rfl
    · unfold Ls.wait
      rw [List.any_eq_false]
      intro y hy
      obtain ⟨j, hj, rfl⟩ := oL_mem.1 hy
      show ¬ ((j : Int) == ((n + 1 : Nat) : Int)) = true
      rw [beq_iff_eq]
      omega
    · obtain ⟨j, hj, rfl⟩ := oL_mem.1 hx
      exact absurd (show (j : Int) = ((n + 1 : Nat) : Int) from e) (by omega)
  refine ⟨hb, fun hm => ?_⟩
  have hmay : mayG (Ls.mk (oL key m 0 1) (oL key m 1 n)).has (((n + 1 : Nat) : Int), key, m (n + 1)) = false := by
    cases e : mayG (Ls.mk (oL key m 0 1) (oL key m 1 n)).has (((n + 1 : Nat) : Int), key, m (n + 1)) with
    | false => rfl
    | true =>
      have := (mayG_iff.1 e ((0 : Nat), key, m 0) (oL_mem.2 ⟨0, ⟨Nat.le_refl _, by omega⟩, rfl⟩) rfl).1
      rw [show (((0 : Nat) : Int), key, m 0).2.2 = m 0 from rfl, hm] at this
      cases this
  refine ⟨?_, ?_, ?_⟩
  · unfold Ls.got
    rw [hmay]; simp
  · unfold Ls.askc; rw [hb]; rfl
  · unfold Ls.asked Ls.askR
    rw [hb, hmay]
    simp only [Bool.and_false, Bool.false_eq_true, if_false]
    unfold Ls.ask
    rw [show oL key m 1 (n + 1) = oL key m 1 n ++ [(((1 + n : Nat) : Int), key, m (1 + n))] from oL_snoc, Nat.add_comm 1 n]
end
theorem Ll.row {w0 w w' : World} {gt : Nat} {s : Ls} {v v' : Value} {e sz n : Nat} {xs : List Value} (h : Ll (fun b => v.ownBlock = some b) w0 w gt s) (ha : Appd w w' e sz v v' n xs) (hge : ∀ b, v.ownBlock = some b → w0.heap.size ≤ b) : Ll (fun b => v'.ownBlock = some b) w0 w' gt s ∧ ∀ b, v'.ownBlock = some b → w0.heap.size ≤ b := by
  obtain ⟨o, h1, h2⟩ := h.ex
  have hg := h.grow
  refine ⟨⟨⟨o, h1.but ha.but (fun b hb e => (h2 b hb).2 e), fun b hb => ⟨(h2 b hb).1, fun e => ?_⟩⟩, h.ok, h.stb, hg.then ha.but (fun i hi e => by have := hge i e; omega), fun b hb => ha.lt b hb⟩, fun b hb => ?_⟩
  · rcases ha.at' with e2 | e2
    · exact (h2 b hb).2 (by rw [← e2]; exact e)
    · rw [e2] at e
      have e3 := Option.some.inj e
      exact hb (h1.top b (by omega))
  · rcases ha.at' with e2 | e2
    · exact hge b (by rw [← e2]; exact hb)
    · rw [e2] at hb
      have e3 := Option.some.inj hb
      have := hg.size
      omega
/-- Amid letting go: k is the next one to let go; woken holds W. -/
def OrI (w wr : World) (gt : Nat) (key : Int) (m : Nat → Bool) (c nx k : Nat) (v : Value) : Prop := ∃ W s, wr.ownsRow 0 3 1 v W.length (numv W) ∧ Ll (fun b => v.ownBlock = some b) w wr gt s ∧ (∀ b, v.ownBlock = some b → w.heap.size ≤ b) ∧
  ((k < nx ∧ W = [] ∧ s = Ls.mk (oL key m k (nx - k)) (oL key m nx (c - nx))) ∨ (k = nx ∧ ∃ g, 1 ≤ g ∧ nx + g ≤ c ∧ W = ups nx g ∧ s = Ls.mk (oL key m nx g) (oL key m (nx + g) (c - nx - g))))
set_option maxRecDepth 100000 in
set_option maxHeartbeats 4000000 in
theorem latchOrder_walk (key n : Int) (v2 : Value) (la : Nat) (B : Nat → Bool) (w : World) (hk0 : (Lit.int .i64 key).wf = true) (hn0 : (Lit.int .u8 n).wf = true) (hv : Bools w v2 la B) : Calls Try.prog 5 #[.int .i64 key, .int .u8 n, v2] w fun e w' => e = .returned (.bool true) ∧ Below w.heap.size w w' := by
  have hk : i64 key := wf_i64 hk0
  have hn : 0 ≤ n ∧ n ≤ 255 := wf_u8 hn0
  obtain ⟨ao, cap, rfl⟩ := hv.len
  have HV := Hid.mk' hv
  have hla : (la : Int) ≤ 140737488351232 := by have := hv.1; omega
  obtain ⟨m, hm0, hm1, hm2⟩ : ∃ m : Nat → Bool, m 0 = true ∧ (∀ i, 1 ≤ i → i < la → m i = B i) ∧ (∀ i, 1 ≤ i → ¬ i < la → m i = true) := ⟨fun i => if i = 0 then true else if i < la then B i else true, rfl, fun i h1 h2 => by dsimp only; rw [if_neg (by omega), if_pos h2], fun i h1 h2 => by dsimp only; rw [if_neg (by omega), if_neg h2]⟩
  have HM0 := Hid.mk' hm0
  have HM1 := Hid.mk' hm1
  have HM2 := Hid.mk' hm2
  obtain ⟨M, hM⟩ : ∃ M, M = 2 + n % 20 := ⟨_, rfl⟩
  have hb : 0 ≤ n % 20 ∧ n % 20 ≤ 19 := by omega
  have HK := Hid.mk' hk
  obtain ⟨c, hc⟩ : ∃ c : Nat, (c : Int) = M := ⟨M.toNat, by omega⟩
  have HC1 : Hid (2 ≤ c) := Hid.mk' (by omega)
  have HC2 : Hid (c ≤ 21) := Hid.mk' (by omega)
  have HC := Hid.mk' hc
  have HN := Hid.mk' (ll_new w)
  have hw1 : IntKind.i64.wrap n = n := wrapI (by omega) (by omega)
  have hM2 : 2 + n % 20 = M := hM.symm
  have hMl : 2 ≤ M := by omega
  have hMu : M ≤ 21 := by omega
  obtain ⟨hbl, hbu⟩ := hb
  obtain ⟨hnl, hnu⟩ := hn
  clear hk hM hk0 hn0 hc hv hm0 hm1 hm2
  go_enter Try.func5, Try.ntmps5
  go_wp2_with fail
  refine Calls.mono HN.out ?_
  rintro e w1 ⟨gt, rfl, h1⟩
  have ha := ll_ask (t := 0) (k := key) (a := true) h1 (by unfold i64; omega) HK.out (by decide)
  rw [show Ls.new.got (0, key, true) = true from rfl, show Ls.new.askc (0, key, true) = 0 from rfl, show Ls.new.asked (0, key, true) = Ls.mk (oL key m 0 1) [] from by rw [show oL key m 0 1 = [(((0 : Nat) : Int), key, m 0)] from rfl, HM0.out]; rfl] at ha
  have HA := Hid.mk' ha
  clear h1 ha HN
  go_wp2_with fail
  refine Calls.mono HA.out ?_
  rintro e w2 ⟨rfl, h2, -⟩
  have H2 := Hid.mk' h2
  clear h2 HA
  go_wp2
  clear hM2 hw1 hbl hbu hnl hnu
  go_loopw [11] (fun iv wr => ∃ i : Nat, i + 1 ≤ c ∧ iv = .int .i64 ((i + 1 : Nat) : Int) ∧ Ll (fun _ => False) w wr gt (Ls.mk (oL key m 0 1) (oL key m 1 i))) (fun iv _ => c - (intOf iv).toNat)
  case atStart => exact ⟨0, by have := HC1.out; omega, rfl, H2.out⟩
  case round =>
    clear H2
    obtain ⟨i, hic, rfl, hL⟩ := hrel
    have HL := Hid.mk' hL
    have HI := Hid.mk' hic
    clear hL hic
    obtain ⟨I, hI⟩ : ∃ I : Int, I = ((i + 1 : Nat) : Int) := ⟨_, rfl⟩
    rw [← hI]
    have HII := Hid.mk' hI
    have hI1 : 1 ≤ I := by omega
    have hI2 : I ≤ 21 := by have := HI.out; have := HC2.out; omega
    by_cases hlt : I < M
    · have ha := ll_ask (t := ((i + 1 : Nat) : Int)) (k := key) (a := m (i + 1)) HL.out (by have := HC2.out; have := HI.out; unfold i64; omega) HK.out (by show (oL key m 0 1).length + (oL key m 1 i).length < 10000; rw [oL_len, oL_len]; have := HC2.out; have := HI.out; omega)
      obtain ⟨-, ho⟩ := or_ask (key := key) (m := m) (n := i)
      obtain ⟨h1, h2, h3⟩ := ho HM0.out
      rw [h1, h2, h3, ← hI] at ha
      have HA := Hid.mk' ha
      clear ha ho h1 h2 h3 hI
      have hx3 : (i + 1 < la ∧ B (i + 1) = true) ∨ (i + 1 < la ∧ B (i + 1) = false) ∨ la ≤ i + 1 := by
        rcases Nat.lt_or_ge (i + 1) la with h | h
        · cases B (i + 1) with
          | true => exact .inl ⟨h, rfl⟩
          | false => exact .inr (.inl ⟨h, rfl⟩)
        · exact .inr (.inr h)
      rcases hx3 with ⟨hx, hbb⟩ | ⟨hx, hbb⟩ | hx
      case' inl =>
        have hil : I < (la : Int) := by have := HII.out; omega
        obtain ⟨b, off, cap', e1, hbl, hAt⟩ := HV.out.at hx
        simp only [Value.slice.injEq] at e1
        obtain ⟨rfl, -, rfl⟩ := e1
        have hce := grow_cell HL.out.grow ((hAt (i + 1) hx).2 0 _ rfl)
        rw [hbb] at hce
        have hIn : I.toNat = i + 1 := by have := HII.out; omega
        have hce2 : wr.cell? ⟨b, off + I.toNat, none⟩ = some (.bool true) := by rw [hIn]; simpa using hce
        have hce3 : wr.cell? ⟨b, off + (i + 1), none⟩ = some (.bool true) := by simpa using hce
        rw [HM1.out (i + 1) (by omega) hx, hbb] at HA
        clear hAt hbl hce hx hbb
      case' inr.inl =>
        have hil : I < (la : Int) := by have := HII.out; omega
        have hil2 : ¬ ((la : Int) ≤ I) := by omega
        obtain ⟨b, off, cap', e1, hbl, hAt⟩ := HV.out.at hx
        simp only [Value.slice.injEq] at e1
        obtain ⟨rfl, -, rfl⟩ := e1
        have hce := grow_cell HL.out.grow ((hAt (i + 1) hx).2 0 _ rfl)
        rw [hbb] at hce
        have hIn : I.toNat = i + 1 := by have := HII.out; omega
        have hce2 : wr.cell? ⟨b, off + I.toNat, none⟩ = some (.bool false) := by rw [hIn]; simpa using hce
        have hce3 : wr.cell? ⟨b, off + (i + 1), none⟩ = some (.bool false) := by simpa using hce
        rw [HM1.out (i + 1) (by omega) hx, hbb] at HA
        clear hAt hbl hce hx hbb
      case' inr.inr =>
        have hil : ¬ (I < (la : Int)) := by have := HII.out; omega
        have hil2 : (la : Int) ≤ I := by have := HII.out; omega
        rw [HM2.out (i + 1) (by omega) (by omega)] at HA
        clear hx
      all_goals
        go_wp2_with fail
        refine Calls.mono HA.out ?_
        rintro e w3 ⟨rfl, h3, -⟩
        have H3 := Hid.mk' h3
        clear h3 HA HL
        go_wp2
        refine ⟨⟨i + 1, by have := HC.out; have := HII.out; omega, by have := HII.out; congr 1; omega, H3.out⟩, ?_⟩
        show c - (I + 1).toNat < c - I.toNat
        have := HC.out
        have := HII.out
        omega
    · have hie : i + 1 = c := by have := HC.out; have := HI.out; omega
      have HIE := Hid.mk' hie
      clear hI hie
      go_wp2
      go_loopw [14, 15] (fun nv lv wr => ∃ ls nx : Nat, ls < nx ∧ nx ≤ c ∧ nv = .int .i64 nx ∧ lv = .int .i64 ls ∧ Ll (fun _ => False) w wr gt (Ls.mk (oL key m ls (nx - ls)) (oL key m nx (c - nx)))) (fun nv _ _ => c - (intOf nv).toNat)
      case atStart => exact ⟨0, 1, by decide, by have := HC1.out; omega, rfl, rfl, by rw [show c - 1 = i by have := HIE.out; omega]; exact HL.out⟩
      case round =>
        clear HL HI HII hlt hI1 hI2 HIE
        obtain ⟨ls, nx, hln, hnc, rfl, rfl, hL⟩ := hrel
        have HLN := Hid.mk' hln
        have HNC := Hid.mk' hnc
        have HL := Hid.mk' hL
        clear hL hln hnc
        have hnb : (nx : Int) ≤ 21 := by have := HNC.out; have := HC2.out; omega
        have hlb : (ls : Int) ≤ 21 := by have := HLN.out; omega
        by_cases hnm : (nx : Int) < M
        · go_wp2
          go_loopw [16, 17] (fun vv kv wr => ∃ (v0 : Value) (k : Nat), v0 = vv ∧ ls ≤ k ∧ k ≤ nx ∧ kv = .int .i64 k ∧ OrI w wr gt key m c nx k v0) (fun _ kv _ => nx - (intOf kv).toNat)
          case atStart => exact ⟨_, ls, rfl, Nat.le_refl _, by have := HLN.out; omega, rfl, [], _, World.ownsRow_nil _ _ _ _, HL.out.less (fun b hb => nomatch hb), fun b hb => (nomatch hb), .inl ⟨HLN.out, rfl, rfl⟩⟩
          case round =>
            clear HL
            obtain ⟨v0, k, rfl, hlk, hkn, rfl, W, s, hrow, hL, hge, hcase⟩ := hrel
            have HROW := Hid.mk' hrow
            have HL := Hid.mk' hL
            have HGE := Hid.mk' hge
            have HKN := Hid.mk' hkn
            have HLK := Hid.mk' hlk
            clear hrow hL hge hkn hlk
            by_cases hkx : (k : Int) < (nx : Int)
            · obtain ⟨-, rfl, rfl⟩ := hcase.resolve_right (fun h => by have := h.1; omega)
              obtain ⟨r, hr⟩ : ∃ r, nx - k = r + 1 := ⟨nx - k - 1, by omega⟩
              obtain ⟨N, hN⟩ : ∃ N, c - nx = N + 1 := ⟨c - nx - 1, by have := HC.out; omega⟩
              rw [hr, hN] at HL
              have HR := Hid.mk' hr
              have HNN := Hid.mk' hN
              have HF := Hid.mk' (ll_free (t := k) HL.out (by unfold i64; omega) (by show (oL key m k (r + 1)).length + (oL key m nx (N + 1)).length ≤ 10000; rw [oL_len, oL_len]; have := HC2.out; omega))
              clear hcase hr hN
              go_wp2_with fail
              refine Calls.mono HF.out ?_
              rintro e w4 ⟨u, G, s4, rfl, hf, hnu, h4, -, hbu⟩
              have hor := or_free HL.out.ok HL.out.stb (by omega) hf
              have hrow4 := ownsRow_but HROW.out hbu (fun j hj e => e.2 hj)
              have HOR := Hid.mk' hor
              have HROW4 := Hid.mk' hrow4
              have HNU := Hid.mk' hnu
              have H4 := Hid.mk' h4
              have HGL : Hid ((srt (G.map (·.1))).length ≤ 21) := Hid.mk' (by
                rw [srt_len, List.length_map]
                rcases Nat.eq_zero_or_pos r with e | e
                · obtain ⟨g, -, h5, rfl, -⟩ := hor.2 e
                  rw [oL_len]
                  have := HNN.out
                  have := HC2.out
                  omega
                · rw [(hor.1 e).1]; exact Nat.zero_le _)
              clear hf hnu h4 hbu hor hrow4 HF HL HROW
              go_wp2_with (first
                | (refine wpList_someH rfl (exec_appendN (v := v0) (u := u) (n := 0) (xs := []) (ks := srt (G.map (·.1))) rfl rfl HROW4.out rfl HNU.out (by have := HGL.out; omega)) ?_; intro v5 w5 hap)
                | fail)
              obtain ⟨h6, h7⟩ := H4.out.row hap HGE.out
              have HROW5 := Hid.mk' hap.own
              have H6 := Hid.mk' h6
              have H7 := Hid.mk' h7
              clear hap h6 h7 H4 HROW4 HNU
              go_wp2
              refine ⟨⟨v5, k + 1, rfl, by have := HLK.out; omega, by omega, by simp, ?_⟩, ?_⟩
              · have hrr := HROW5.out
                rw [List.nil_append, Nat.zero_add] at hrr
                rcases Nat.eq_zero_or_pos r with e | e
                · obtain ⟨g, g1, g2, rfl, rfl⟩ := HOR.out.2 e
                  rw [srt_ups] at hrr
                  refine ⟨ups nx g, _, hrr, H6.out, H7.out, .inr ⟨by have := HR.out; omega, g, g1, by have := HNN.out; omega, rfl, ?_⟩⟩
                  rw [show c - nx - g = N + 1 - g by have := HNN.out; omega]
                · obtain ⟨rfl, rfl⟩ := HOR.out.1 e
                  rw [show srt (List.map (·.1) ([] : List Wt)) = [] from List.perm_nil.1 (srt_perm [])] at hrr
                  refine ⟨[], _, hrr, H6.out, H7.out, .inl ⟨by have := HR.out; omega, rfl, ?_⟩⟩
                  rw [show nx - (k + 1) = r by have := HR.out; omega, show c - nx = N + 1 from HNN.out]
              · show nx - ((k : Int) + 1).toNat < nx - ((k : Int)).toNat
                omega
            · obtain ⟨hke, g, g1, g2, rfl, rfl⟩ := hcase.resolve_left (fun h => by have := h.1; omega)
              have HG1 := Hid.mk' g1
              have HG2 := Hid.mk' g2
              have hnums : Nums wr v0 (ups nx g) := Nums.ofRow HROW.out (ups_i64 (by have := HC2.out; omega)) (by rw [ups_len]; have := HC2.out; omega)
              obtain ⟨b, off, cap2, hve, hcap2, hbl, hce⟩ := hnums.at (by rw [ups_len]; exact g1)
              rw [ups_len] at hve hce
              subst hve
              have HCE := Hid.mk' hce
              have hgb : (g : Int) ≤ 21 := by have := HC2.out; omega
              clear hnums hcap2 hbl hce g1 g2 hcase hke HROW HGE
              go_wp2
              go_loopw [14, 18] (fun nv iv wx => ∃ i : Nat, i ≤ g ∧ nv = .int .i64 ((nx : Int) + (i : Int)) ∧ iv = .int .i64 i ∧ wx = wr) (fun _ iv _ => g - (intOf iv).toNat)
              case atStart => exact ⟨0, Nat.zero_le _, by simp, rfl, rfl⟩
              case round =>
                obtain ⟨i, hig, rfl, rfl, hwx⟩ := hrel
                have h2 := hwx.symm
                subst h2
                clear hwx
                have HIG := Hid.mk' hig
                clear hig
                by_cases hi : (i : Int) < (g : Int)
                · have hci := HCE.out i (by omega)
                  rw [ups_get (by omega)] at hci
                  have hne : (((nx : Int) + (i : Int)) != ((nx : Int) + (i : Int))) = false := by simp
                  go_wp2
                  refine ⟨⟨i + 1, by omega, by simp; omega, by simp, trivial⟩, ?_⟩
                  show g - ((i : Int) + 1).toNat < g - ((i : Int)).toNat
                  omega
                · have hig : i = g := by have := HIG.out; omega
                  subst hig
                  have hne : ((nx : Int) == ((nx : Int) + (i : Int))) = false := by rw [beq_eq_false_iff_ne]; have := HG1.out; omega
                  go_wp2
                  refine ⟨⟨nx, nx + i, by have := HG1.out; omega, HG2.out, by simp, rfl, ?_⟩, ?_⟩
                  · rw [Nat.add_sub_cancel_left, show c - (nx + i) = c - nx - i by omega]
                    exact HL.out.less (fun b hb => hb.elim)
                  · show c - ((nx : Int) + (i : Int)).toNat < c - ((nx : Int)).toNat
                    have := HG1.out
                    have := HG2.out
                    omega
        · have HAW := Hid.mk' (awake_any wr)
          have HG := Hid.mk' HL.out.grow
          clear HL
          go_wp2_with fail
          refine Calls.mono HAW.out ?_
          rintro e w7 ⟨rfl, h7⟩
          go_wp2
          go_ret
          exact ⟨rfl, (HG.out.trans h7).below (Nat.le_refl _) (fun _ _ h => h)⟩
set_option maxRecDepth 100000 in
theorem latchOrder_lifted (os : Os) (started : os.Started) (H : Type) (enc : TypeId × Value → H) :
    ReturnsInHanded {} Try.checked os 5 .any (Rows.latchOrderSpec.pre6 enc Try.prog Try.f5 Rows.latchOrderRow.domain false) (Rows.latchOrderSpec.post enc Try.prog Try.f5 false true false false) := by
  refine returnsInHanded_of_change_sized (C := Try.checked) (by kernel_rfl) started (by kernel_rfl) Try.func5
    (ChangeSpec.witness6 (enc := enc) (C := Try.checked) false ⟨#[], #[.int .i64 0, .int .u8 0, .slice none 0 0], []⟩ 8 (by kernel_rfl) (by kernel_rfl) (by kernel_rfl) (by kernel_rfl)) ?_
  intro W base args ds gs before hval0 hW hcnd hsz0 _
  have hsz : (DataW.weightsEach Try.prog (Try.f5.params.toList ++ Rows.latchOrderSpec.plain.varTypes Try.prog) (ds ++ gs)).all (· ≤ reachBytes) = true := hsz0
  clear hsz0
  have hval : ∀ (j : Nat) t v, Try.f5.params[j]? = some t → args[j]? = some v → Value.okWide Try.prog W .any base t v := hval0
  have hW' := hW
  obtain ⟨p, q, hA0, hV, rfl, hfz, hnd⟩ := hW
  have hA : DataW.TrodAll enc Try.prog W 0 (fun _ => true) true Try.f5.params.toList args.toList ds p := hA0
  rw [Try.params5] at hA hval hsz
  obtain ⟨v0, vs0, d0, ds0, p0, q0, hargs, rfl, rfl, h0, r0⟩ := trodAll_cons hA
  obtain ⟨v1, vs1, d1, ds1, p1, q1, rfl, rfl, rfl, h1, r1⟩ := trodAll_cons r0
  obtain ⟨v2, vs2, d2, ds2, p2, q2, rfl, rfl, rfl, h2, r2⟩ := trodAll_cons r1
  obtain ⟨rfl, rfl, rfl⟩ := trodAll_nil r2
  obtain rfl : args = #[v0, v1, v2] := by cases args; simp_all
  obtain ⟨rfl, rfl⟩ := trodVars_none hV
  obtain ⟨a0, rfl, rfl, rfl, w0⟩ := open_int Try.underlying3 (hval 0 3 v0 rfl rfl) h0
  obtain ⟨a1, rfl, rfl, rfl, w1⟩ := open_int Try.underlying5 (hval 1 5 v1 rfl rfl) h1
  have lt2 : ∀ x ∈ p2, x.block < W.heap.size := by obtain ⟨m, hm⟩ := h2; exact DataW.trod_lt m _ _ _ hm
  obtain ⟨n2, z2, w2⟩ := view_bools (hval 2 44 v2 rfl rfl) h2 lt2 hsz (j := 2) rfl rfl
  clear hA0 hval0
  refine (latchOrder_walk a0 a1 v2 n2 z2 W w0 w1 w2).mono fun e W' ⟨he, bel⟩ => ?_
  subst he
  exact ⟨_, rfl, _, _, _, [], _, [], hW', trodAll_mk1 (shut_bool Try.underlying4 _), (trodAll_cons_mk (shut_int Try.underlying3 w0) (trodAll_cons_mk (shut_int Try.underlying5 w1) (trodAll_cons_mk (Below.trod (by kernel_rfl) (by kernel_rfl) (of_decide_eq_true (by kernel_rfl)) h2 bel lt2) trodAll_mk0))), rfl, bel.frame _, fun h => by cases h⟩

theorem latchOrder_holds : Rows.LatchOrderSaid :=
  OpenClaim.holds_of_wide 5 Try.f5 rfl rfl rfl rfl rfl rfl rfl ⟨rfl, rfl, rfl, rfl, rfl⟩ rfl rfl rfl rfl rfl (by kernel_rfl) Try.func5 (by kernel_rfl)
    (of_decide_eq_true (by kernel_rfl)) (by unfold Func.isWrapper; first | (rw [if_pos (by decide +kernel)]; kernel_rfl) | (rw [if_neg (by decide +kernel)]; exact ⟨rfl, rfl⟩))
    (fun os started H enc _ => latchOrder_lifted os started H enc)
#print axioms latchOrder_holds
end Go.Proofs.Ytgldkckhliklhaa
