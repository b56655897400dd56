/- Weight, Sleep, Awake, passes, Wake, Pick, Next. -/
import Derived.Test.YtidblaepklgkcaaFaMem
import Derived.Test.YtidblaepklgkcaaFaNum
import Derived.Test.YtidblaepklgkcaaChain
namespace Go.Proofs.Ytidblaepklgkcaa
open Go.RowKit

theorem exec_addF {P : Program} {w w' : World} {o : Oper} {ρ : Operand → Value} {t t2 : TypeId} {x y : Operand} {u v r : Value} (ho : o.op = .binOp .add t x y t2) (hx : ρ x = u) (hy : ρ y = v) (h : (binOp .add t u v).run P w = .ok r w') : (execOp ρ o).run P w = .ok (.value r) w' := by
  have e : (eqGuard .add t x y u v).run P w = .ok () w := rfl
  unfold execOp
  simp only [ho, hx, hy, Sem.run_bind, e, Result.andThen_ok, h, Sem.run_pure]
theorem exec_quoF {P : Program} {w w' : World} {o : Oper} {ρ : Operand → Value} {t t2 : TypeId} {x y : Operand} {u v r : Value} (ho : o.op = .binOp .quo t x y t2) (hx : ρ x = u) (hy : ρ y = v) (h : (binOp .quo t u v).run P w = .ok r w') : (execOp ρ o).run P w = .ok (.value r) w' := by
  have e : (eqGuard .quo t x y u v).run P w = .ok () w := rfl
  unfold execOp
  simp only [ho, hx, hy, Sem.run_bind, e, Result.andThen_ok, h, Sem.run_pure]
theorem add_runF (t : TypeId) {a b : Nat} (ha : a ≤ 9218868437227405312) (hb : b ≤ 9218868437227405312) (w : World) : (binOp .add t (.float .f64 a) (.float .f64 b)).run Try.prog w = .ok (.float .f64 (fad a b)) w := run_float_arith w .add t .f64 a b _ (add_pos ha hb)
theorem quo_runF (t : TypeId) {a : Nat} (h1 : 4562146422526312448 ≤ a) (h2 : a ≤ 4652218415073722368) (w : World) : (binOp .quo t (.float .f64 4607182418800017408) (.float .f64 a)).run Try.prog w = .ok (.float .f64 (fdv a)) w := run_float_arith w .quo t .f64 _ a _ (div_one h1 h2).1
def awk (T : List Sh) (j : Nat) : Bool := ((T[j]?).map (·.a)).getD false
def pat (T : List Sh) (j : Nat) : Nat := ((T[j]?).map (·.p)).getD 0
/-- Who is awake, of the first so many. -/
def awU (T : List Sh) (n : Nat) : List Nat := (List.range n).filter (awk T)
def awN (T : List Sh) : List Nat := awU T T.length
def ints (l : List Nat) : List Int := l.map (fun j => ((j : Nat) : Int))
def pss (T : List Sh) : List Nat := (awN T).map (pat T)
theorem awU_succ (T : List Sh) (n : Nat) : awU T (n + 1) = awU T n ++ if awk T n then [n] else [] := by
  unfold awU
  rw [List.range_succ, List.filter_append, List.filter_cons, List.filter_nil]
theorem awU_len (T : List Sh) (n : Nat) : (awU T n).length ≤ n := by
  have := List.length_filter_le (awk T) (List.range n)
  rw [List.length_range] at this
  exact this
theorem ints_len (l : List Nat) : (ints l).length = l.length := List.length_map ..
theorem awU_lt {T : List Sh} {n j : Nat} (h : j ∈ awU T n) : j < n ∧ awk T j = true := by
  unfold awU at h
  rw [List.mem_filter, List.mem_range] at h
  exact h
theorem ints_i64 {T : List Sh} {n : Nat} (hn : n ≤ 8) : ∀ x ∈ ints (awU T n), -9223372036854775808 ≤ x ∧ x ≤ 9223372036854775807 := fun x hx => by
  obtain ⟨j, hj, rfl⟩ := List.mem_map.1 hx
  have := (awU_lt hj).1
  omega
theorem awk_of {T : List Sh} {i : Nat} {t : Sh} (h : T[i]? = some t) : awk T i = t.a := by unfold awk; rw [h]; rfl
theorem pat_of {T : List Sh} {i : Nat} {t : Sh} (h : T[i]? = some t) : pat T i = t.p := by unfold pat; rw [h]; rfl
theorem Fok.pat {T : List Sh} (h : Fok T) (j : Nat) : pat T j ≤ 9218868437227405312 := by
  unfold Go.Proofs.Ytidblaepklgkcaa.pat
  cases e : T[j]? with
  | none => exact Nat.zero_le _
  | some t => exact (h.ok t (List.mem_of_getElem? e)).2
theorem pas_pat {T : List Sh} {k : Nat} (h : k < T.length) : pas T (k : Int) = pat T k := by
  obtain ⟨t, ht⟩ : ∃ t, T[k]? = some t := ⟨_, List.getElem?_eq_getElem h⟩
  rw [pas_at ht, pat_of ht]
/-- What a call on the row leaves. -/
structure FrTo (w : World) (g gt : Nat) (T : List Sh) (w' : World) : Prop where
  fr : Fr w' g gt T
  but : But (· = gt) w w'
section
variable {w w' : World} {g gt : Nat} {T : List Sh} {i : Int} {k : Nat} {t : Sh}
theorem Fr.same (h : Fr w g gt T) (k : Grow w w') : FrTo w g gt T w' := ⟨h.grow k, k.mono (fun _ _ h => h.elim)⟩
theorem inR_iff {T : List Sh} {i : Int} (h : inR T i = true) : ∃ (k : Nat) (t : Sh), i = (k : Int) ∧ T[k]? = some t ∧ k < T.length := by
  have hri : 0 ≤ i ∧ i < (T.length : Int) := of_decide_eq_true h
  have hk : i.toNat < T.length := by omega
  exact ⟨i.toNat, _, by omega, List.getElem?_eq_getElem hk, hk⟩
/-- Weight. -/
def wgt (T : List Sh) (i : Int) (x : Nat) : List Sh := if inR T i then T.set i.toNat ⟨rw' x, pat T i.toNat, awk T i.toNat⟩ else T
def slp (T : List Sh) (i : Int) : List Sh := if inR T i then T.set i.toNat ⟨((T[i.toNat]?).map (·.w)).getD 0, pat T i.toNat, false⟩ else T
def cod (T : List Sh) (i : Int) : Int := if inR T i then 0 else 1
set_option maxRecDepth 100000 in
set_option maxHeartbeats 1000000 in
theorem weight_any (h : Fr w g gt T) {x : Nat} (hx : x < 18446744073709551616) : Calls Try.prog 29 #[ptr g, .int .i64 i, .float .f64 x] w fun e w' => e = .returned (.int .i64 (cod T i)) ∧ FrTo w g gt (wgt T i x) w' := by
  have HFA := Hid.mk' (fault_any (i := i) h)
  cases hr : inR T i with
  | false =>
    have HS := Hid.mk' (h.same (But.refl _ w))
    rw [hr] at HFA
    rw [show cod T i = 1 by unfold cod; rw [hr]; rfl, show wgt T i x = T by unfold wgt; rw [hr]; rfl]
    clear h hr
    go_enter Try.func29, Try.ntmps29
    go_wp2_with fail
    refine Calls.mono HFA.out ?_
    rintro e w' ⟨rfl, hw⟩
    have h2 := hw.symm
    subst h2
    clear hw
    go_wp2
    go_ret
    exact ⟨rfl, HS.out⟩
  | true =>
    rw [hr] at HFA
    obtain ⟨k, t, rfl, ht, hk⟩ := inR_iff hr
    rw [show cod T (k : Int) = 0 by unfold cod; rw [hr]; rfl, show wgt T (k : Int) x = T.set k ⟨rw' x, t.p, t.a⟩ by unfold wgt; rw [hr, if_pos rfl, Int.toNat_natCast, pat_of ht, awk_of ht]]
    obtain ⟨n, hn⟩ : ∃ n, n = T.length := ⟨_, rfl⟩
    have HH := Hid.mk' h
    have HROW : Hid (Blk w g 69 [.slice (some ⟨gt, 0, none⟩) n n]) := Hid.mk' (by rw [hn]; exact h.b.row)
    have HLN : Hid (k * 3 + 0 < (T.flatMap shc).length) := Hid.mk' (by rw [flat_len' _ (fun x _ => shc_len x)]; omega)
    have hkn : (k : Int) < (n : Int) := by omega
    have HNN : Hid (n ≤ 8) := Hid.mk' (by rw [hn]; exact h.ok.n8)
    have hn8 : (n : Int) ≤ 8 := by have := HNN.out; omega
    have HT := Hid.mk' ht
    have HRT : Hid (∀ wz : World, Calls Try.prog 48 #[.float .f64 x] wz fun e w' => e = .returned (.float .f64 (rw' x)) ∧ Grow wz w') := fun wz => (right_any x wz hx).mono (fun e w' h => ⟨h.1, by rw [h.2]; exact But.refl _ _⟩)
    have HOK := Hid.mk' (rw_ok hx)
    obtain ⟨y, hy⟩ : ∃ y, y = rw' x := ⟨_, rfl⟩
    rw [← hy] at HRT HOK ⊢
    clear h hr ht hk hn hx hy
    go_enter Try.func29, Try.ntmps29
    go_wp2_with fail
    refine Calls.mono HFA.out ?_
    rintro e w' ⟨rfl, hw⟩
    have h2 := hw.symm
    subst h2
    clear hw
    go_upto_region 4 with fail
    refine region_chain [([0, 1, 2, 3, 4, 5, 6, 7, 8], 9)] [] (Grow w) (Grow w) (by kernel_rfl) (by kernel_rfl) (fun _ _ h k => h.trans k) (fun _ h => h) ((But.refl _ w).drew) ?_
    intro ι hne X hX
    have d0 : ∀ z, (X z).cell? ⟨g, 0, none⟩ = some (.slice (some ⟨gt, 0, none⟩) n n) := fun z => (HROW.out.but (hX z) (fun h => h)).cell 0
    iterate 6 (refine still_step rfl (fun K hK => ?_); go_simp; refine hK _ ?_; clear hK K)
    refine still_call rfl (.float .f64 y) 48 #[.float .f64 x] rfl (fun x => by kernel_rfl) (fun x => HRT.out _) ?_
    intro K hK; go_simp; refine hK _ ?_; clear hK K
    iterate 2 (refine still_step rfl (fun K hK => ?_); go_simp; refine hK _ ?_; clear hK K)
    refine still_nil ?_
    clear hX hne d0 X ι
    refine turn_run rfl rfl (fun _ w2 => FrTo w g gt (T.set k ⟨y, t.p, t.a⟩) w2) (fun _ _ => True) (fun _ _ _ h k => ⟨h.fr.grow k, h.but.trans (k.mono (fun _ _ h => h.elim))⟩) (fun _ _ _ => trivial) (.inl (by kernel_rfl)) ?_ ?_
    · rintro w5 h1
      have hf := HH.out.grow h1
      exact turn_store iFl rfl rfl rfl rfl hf.b.tsk HLN.out ⟨⟨hf.b.set HT.out (c := 0) (by decide) rfl, hf.ok.set _ ⟨HOK.out, (hf.ok.ok t (List.mem_of_getElem? HT.out)).2⟩⟩, (h1.mono (fun _ _ h => h.elim)).trans (But.set1 w5 gt _ _)⟩
    rintro v5 - Y hY
    go_simp
    refine hY _ ?_
    clear hY Y
    intro ι hne X hX
    refine still_nil ?_
    clear hX hne
    intro w6 hw6
    have HF := Hid.mk' hw6
    clear hw6
    go_wp2
    go_ret
    exact ⟨rfl, HF.out⟩
set_option maxRecDepth 100000 in
set_option maxHeartbeats 1000000 in
theorem sleep_any (h : Fr w g gt T) : Calls Try.prog 33 #[ptr g, .int .i64 i] w fun e w' => e = .returned (.int .i64 (cod T i)) ∧ FrTo w g gt (slp T i) w' := by
  have HFA := Hid.mk' (fault_any (i := i) h)
  cases hr : inR T i with
  | false =>
    have HS := Hid.mk' (h.same (But.refl _ w))
    rw [hr] at HFA
    rw [show cod T i = 1 by unfold cod; rw [hr]; rfl, show slp T i = T by unfold slp; rw [hr]; rfl]
    clear h hr
    go_enter Try.func33, Try.ntmps33
    go_wp2_with fail
    refine Calls.mono HFA.out ?_
    rintro e w' ⟨rfl, hw⟩
    have h2 := hw.symm
    subst h2
    clear hw
    go_wp2
    go_ret
    exact ⟨rfl, HS.out⟩
  | true =>
    rw [hr] at HFA
    obtain ⟨k, t, rfl, ht, hk⟩ := inR_iff hr
    rw [show cod T (k : Int) = 0 by unfold cod; rw [hr]; rfl, show slp T (k : Int) = T.set k ⟨t.w, t.p, false⟩ by unfold slp; rw [hr, if_pos rfl, Int.toNat_natCast, pat_of ht, ht]; rfl]
    obtain ⟨n, hn⟩ : ∃ n, n = T.length := ⟨_, rfl⟩
    have c0 : w.cell? ⟨g, 0, none⟩ = some (.slice (some ⟨gt, 0, none⟩) n n) := by rw [hn]; exact h.b.row.cell 0
    have HB := Hid.mk' h.b.tsk
    have HLN : Hid (k * 3 + 2 < (T.flatMap shc).length) := Hid.mk' (by rw [flat_len' _ (fun x _ => shc_len x)]; omega)
    have hkn : (k : Int) < (n : Int) := by omega
    have hn8 : (n : Int) ≤ 8 := by have := h.ok.n8; omega
    have HFIN : Hid (FrTo w g gt (T.set k ⟨t.w, t.p, false⟩) (w.setCell ⟨gt, k * 3 + 2, none⟩ (.bool false))) := ⟨⟨h.b.set ht (c := 2) (by decide) rfl, h.ok.set _ (h.ok.ok t (List.mem_of_getElem? ht))⟩, But.set1 w gt _ _⟩
    clear h hr ht hk hn
    go_enter Try.func33, Try.ntmps33
    go_wp2_with fail
    refine Calls.mono HFA.out ?_
    rintro e w' ⟨rfl, hw⟩
    have h2 := hw.symm
    subst h2
    clear hw
    go_wp2_with (first
      | (refine wpList_skipH rfl (exec_store (g := gt) (i := k * 3 + 2) (v := .bool false) iBo rfl rfl rfl rfl HB.out HLN.out) ?_)
      | fail)
    go_ret
    exact ⟨rfl, HFIN.out⟩
set_option maxRecDepth 100000 in
set_option maxHeartbeats 1000000 in
theorem awake_list (h : Fr w g gt T) : Calls Try.prog 13 #[ptr g] w fun e w' => ∃ v, e = .returned v ∧ w'.ownsRow 0 3 1 v (ints (awN T)).length (numv (ints (awN T))) ∧ (∀ k, v.ownBlock = some k → w.heap.size ≤ k) ∧ Grow w w' := by
  obtain ⟨n, hn⟩ : ∃ n, n = T.length := ⟨_, rfl⟩
  have c0 : w.cell? ⟨g, 0, none⟩ = some (.slice (some ⟨gt, 0, none⟩) n n) := by rw [hn]; exact h.b.row.cell 0
  have HH := Hid.mk' h
  have HN := Hid.mk' hn
  have hn8 : (n : Int) ≤ 8 := by have := h.ok.n8; omega
  unfold awN
  rw [← hn]
  clear h hn
  go_enter Try.func13, Try.ntmps13
  go_wp2
  go_loopw [3, 13] (fun rv iv wr => ∃ (i : Nat) (r : Value), i ≤ n ∧ iv = .int .i64 i ∧ r = rv ∧ wr.ownsRow 0 3 1 r (ints (awU T i)).length (numv (ints (awU T i))) ∧ (∀ k, r.ownBlock = some k → w.heap.size ≤ k) ∧ Grow w wr) (fun _ iv _ => n - (intOf iv).toNat)
  case atStart => exact ⟨0, _, Nat.zero_le _, rfl, rfl, World.ownsRow_nil _ _ _ _, (fun k hk => by cases hk), But.refl _ _⟩
  case round =>
    rename_i rv
    obtain ⟨i, r, hin, rfl, rfl, hT, hV, hG⟩ := hrel
    have HT := Hid.mk' hT
    have HV := Hid.mk' hV
    have HG := Hid.mk' hG
    clear hT hV hG
    by_cases hlt : i < n
    · have hlti : (i : Int) < (n : Int) := by omega
      obtain ⟨⟨tw, tp, ta⟩, ht⟩ : ∃ t, T[i]? = some t := ⟨_, List.getElem?_eq_getElem (by have := HN.out; omega)⟩
      have hfw := HH.out.grow HG.out
      have HCW : Hid (∀ c u, (shc ⟨tw, tp, ta⟩)[c]? = some u → wr.cell? ((⟨gt, i * 3, none⟩ : Addr).add c) = some u) := fun c u hc => by
        rw [addr_add]; exact hfw.b.cell ht hc
      have HNX : Hid (awU T (i + 1) = awU T i ++ if ta then [i] else []) := Hid.mk' (by rw [awU_succ, awk_of ht])
      obtain ⟨gb, hg⟩ : ∃ gb, gb = wr.heap.size := ⟨_, rfl⟩
      have HGB := Hid.mk' hg
      have HAL : Hid (Grow wr (wr.alloc (.cells #[.float .f64 0, .float .f64 0, .bool false] 71))) := (But.refl _ wr).alloc _
      have HBZ : Hid (Blk (wr.alloc (.cells #[.float .f64 0, .float .f64 0, .bool false] 71)) gb 71 [.float .f64 0, .float .f64 0, .bool false]) := Blk.new (L := [.float .f64 0, .float .f64 0, .bool false]) hg.symm
      have HONE : Hid (∀ u ∈ shc ⟨tw, tp, ta⟩, u.oneCell' = true) := Hid.mk' (by
        intro u hu
        unfold shc at hu
        simp only [List.mem_cons, List.not_mem_nil, or_false] at hu
        rcases hu with rfl | rfl | rfl <;> rfl)
      clear hg ht hfw
      go_upto_region 7 with (first
        | (refine wpList_load_cells rfl _ _ rfl ⟨gt, i * 3, none⟩ rfl (shc ⟨tw, tp, ta⟩) _ HCW.out Try.underlying71 rfl iSh ?_)
        | (refine wpList_store_at rfl _ _ _ rfl gb 0 (shc ⟨tw, tp, ta⟩) (by rw [HGB.out]; rfl) rfl 71 [] [.float .f64 0, .float .f64 0, .bool false] [] (by simpa using HBZ.out) rfl rfl iSh HONE.out ?_; intro w3 hb3 hbut3; rw [List.nil_append, List.append_nil] at hb3)
        | fail)
      have hg3 : Grow wr w3 := HAL.out.then hbut3 (fun j hj e => by have := HGB.out; omega)
      have a2 : w3.cell? ⟨gb, 2, none⟩ = some (.bool ta) := hb3.cell 2
      have HG3 := Hid.mk' (HG.out.trans hg3)
      have HT3 := Hid.mk' (ownsRow_grow HT.out hg3)
      rw [← HGB.out]
      clear hb3 hbut3 HAL HBZ HCW HONE hg3
      cases ta with
      | false =>
        have HN2 : Hid (awU T (i + 1) = awU T i) := Hid.mk' (by rw [HNX.out, if_neg (by decide), List.append_nil])
        go_wp2
        exact ⟨⟨i + 1, r, by omega, by go_num, rfl, by rw [HN2.out]; exact HT3.out, HV.out, HG3.out⟩, by simp [intOf]; omega⟩
      | true =>
        have HN2 : Hid (awU T (i + 1) = awU T i ++ [i]) := Hid.mk' (by rw [HNX.out, if_pos rfl])
        obtain ⟨F, hF⟩ : ∃ F, F = ints (awU T i) := ⟨_, rfl⟩
        rw [← hF] at HT3
        have HFE := Hid.mk' hF
        have HFL : Hid (F.length ≤ 8) := Hid.mk' (by rw [hF, ints_len]; have := awU_len T i; omega)
        have HAL : Hid (Grow w3 (w3.alloc (.cells #[.int .i64 (i : Int)] 3))) := (But.refl _ w3).alloc _
        have HBL : Hid (Blk (w3.alloc (.cells #[.int .i64 (i : Int)] 3)) w3.heap.size 3 (numv [(i : Int)])) := Blk.new (L := numv [(i : Int)]) rfl
        clear hF HNX
        go_wp2_with (first
          | (refine wpList_runH rfl (exec_row1 (v := .int .i64 (i : Int)) Try.underlying34 infNum (by decide) (by decide) rfl rfl rfl) ?_)
          | (refine wpList_someH rfl (exec_append (v := r) (n := F.length) (xs := numv F) (news := numv [(i : Int)]) Try.underlying34 infNum rfl (by decide) rfl rfl (ownsRow_grow HT3.out HAL.out) rfl rfl (fun j u hj => HBL.out.cells0 j u hj) (fun u hu => by rw [show u = .int .i64 (i : Int) by simpa [numv] using hu]; rfl) (by have := HFL.out; omega) (by decide)) ?_; intro v4 w4 hap)
          | fail)
        refine ⟨⟨i + 1, v4, by omega, by go_num, rfl, ?_, fun k hk => ?_, ?_⟩, by simp [intOf]; omega⟩
        · rw [HN2.out, show ints (awU T i ++ [i]) = F ++ [(i : Int)] by rw [HFE.out]; unfold ints; rw [List.map_append]; rfl, List.length_append, List.length_singleton, show numv (F ++ [(i : Int)]) = numv F ++ numv [(i : Int)] by simp [numv]]
          exact hap.own
        · rcases hap.at' with e | e
          · exact HV.out k (by rw [← e]; exact hk)
          · rw [e] at hk
            have := Option.some.inj hk
            have := HG3.out.size
            have := HAL.out.size
            omega
        · exact (HG3.out.trans HAL.out).then hap.but (fun b hb e => by have := HV.out b e; omega)
    · have hie : i = n := by omega
      subst hie
      go_wp2
      go_ret
      exact ⟨_, rfl, HT.out, HV.out, HG.out⟩
theorem awake_nil (w : World) : Calls Try.prog 13 #[.pointer none] w fun e w' => e = .returned (.slice none 0 0) ∧ w' = w := by
  go_enter Try.func13, Try.ntmps13
  go_wp2
  go_ret
  exact ⟨rfl, rfl⟩
theorem weight_nil (w : World) (i : Int) (x : Nat) : Calls Try.prog 29 #[.pointer none, .int .i64 i, .float .f64 x] w fun e w' => e = .returned (.int .i64 5) ∧ w' = w := by
  have HFA := Hid.mk' (fault_nil w i)
  go_enter Try.func29, Try.ntmps29
  go_wp2_with fail
  refine Calls.mono HFA.out ?_
  rintro e w' ⟨rfl, hw⟩
  have h2 := hw.symm
  subst h2
  clear hw
  go_wp2
  go_ret
  exact ⟨rfl, rfl⟩
theorem wake_nil (w : World) (i : Int) : Calls Try.prog 31 #[.pointer none, .int .i64 i] w fun e w' => e = .returned (.int .i64 5) ∧ w' = w := by
  have HFA := Hid.mk' (fault_nil w i)
  go_enter Try.func31, Try.ntmps31
  go_wp2_with fail
  refine Calls.mono HFA.out ?_
  rintro e w' ⟨rfl, hw⟩
  have h2 := hw.symm
  subst h2
  clear hw
  go_wp2
  go_ret
  exact ⟨rfl, rfl⟩
theorem sleep_nil (w : World) (i : Int) : Calls Try.prog 33 #[.pointer none, .int .i64 i] w fun e w' => e = .returned (.int .i64 5) ∧ w' = w := by
  have HFA := Hid.mk' (fault_nil w i)
  go_enter Try.func33, Try.ntmps33
  go_wp2_with fail
  refine Calls.mono HFA.out ?_
  rintro e w' ⟨rfl, hw⟩
  have h2 := hw.symm
  subst h2
  clear hw
  go_wp2
  go_ret
  exact ⟨rfl, rfl⟩
theorem next_nilR (w : World) : Calls Try.prog 36 #[.pointer none] w fun e w' => e = .returned (.tuple #[.int .i64 0, .bool false]) ∧ w' = w := by
  have HFA := Hid.mk' (awake_nil w)
  go_enter Try.func36, Try.ntmps36
  go_wp2_with fail
  refine Calls.mono HFA.out ?_
  rintro e w' ⟨rfl, hw⟩
  have h2 := hw.symm
  subst h2
  clear hw
  go_wp2
  go_ret2
  exact ⟨rfl, rfl⟩
theorem pick_nilR (w : World) (i : Int) : Calls Try.prog 14 #[.pointer none, .int .i64 i] w fun e w' => e = .returned (.tuple #[.int .i64 0, .bool false]) ∧ w' = w := by
  have HFA := Hid.mk' (awake_nil w)
  go_enter Try.func14, Try.ntmps14
  go_wp2_with fail
  refine Calls.mono HFA.out ?_
  rintro e w' ⟨rfl, hw⟩
  have h2 := hw.symm
  subst h2
  clear hw
  go_wp2
  go_ret2
  exact ⟨rfl, rfl⟩
end
end Go.Proofs.Ytidblaepklgkcaa
