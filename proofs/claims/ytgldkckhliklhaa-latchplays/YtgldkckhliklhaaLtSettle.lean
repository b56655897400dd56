/- latch: settle. -/
import Derived.Test.YtgldkckhliklhaaLtQueue
namespace Go.Proofs.Ytgldkckhliklhaa
open Go.RowKit Go.Maps

theorem exec_fld {w : World} {o : Oper} {ρ : Operand → Value} {T : TypeId} {x : Operand} {f : Nat} (ho : o.op = .field T x f) {v r : Value} (hx : ρ x = v) (hr : (Instr.field T v f).run Try.prog w = .ok r w) : (execOp ρ o).run Try.prog w = .ok (.value r) w := by
  unfold execOp
  simp only [ho, hx]
  simp only [Sem.run_bind, hr, Result.andThen_ok, Sem.run_pure]
theorem wt_key (k : Int) (a : Bool) (w : World) : (Instr.field 60 (.agg #[.int .i64 k, .bool a]) 0).run Try.prog w = .ok (.int .i64 k) w := by kernel_rfl
theorem wt_al (k : Int) (a : Bool) (w : World) : (Instr.field 60 (.agg #[.int .i64 k, .bool a]) 1).run Try.prog w = .ok (.bool a) w := by kernel_rfl
/-- The table while a task's map is out of it: H is what is said of tasks. -/
def Ls.ch (s : Ls) (H : List Wt) : Lc := ⟨s.has, H, s.q, s.q⟩
def Lth (w : World) (own : Owner) (gt : Nat) (s : Ls) (H : List Wt) : Prop := ∃ gl gh gw lb hb KL TL, Lm w own gt gl gh gw lb hb KL TL (s.ch H)
/-- What settle leaves. -/
def SetTo (w : World) (own : Owner) (gt : Nat) (s : Ls) (k : Int) (e : Ending) (w' : World) : Prop := ∃ v, e = .returned v ∧ ∃ G s' own', Steps (· = k) s G s' ∧ Stb s' k ∧ Lt w' own' gt s' ∧ Lok s' ∧ w'.ownsRow 0 3 1 v G.length (numv (G.map (·.1))) ∧ (∀ b, v.ownBlock = some b → w.heap.size ≤ b ∧ own' b = .none) ∧ Sub w own own' ∧ But (Wo own) w w'
def SetToH (w : World) (own : Owner) (gt : Nat) (s : Ls) (H : List Wt) (k : Int) (e : Ending) (w' : World) : Prop := ∃ v, e = .returned v ∧ ∃ G s' own', Steps (· = k) s G s' ∧ Stb s' k ∧ Lth w' own' gt s' (H ++ G) ∧ Lok s' ∧ w'.ownsRow 0 3 1 v G.length (numv (G.map (·.1))) ∧ (∀ b, v.ownBlock = some b → w.heap.size ≤ b ∧ own' b = .none) ∧ Sub w own own' ∧ But (Wo own) w w'
theorem steps_has {K : Int → Prop} {s s' : Ls} {G : List Wt} (h : Steps K s G s') : s'.has = s.has ++ G := by
  induction h with
  | nil => simp
  | cons hq _ hm _ ih =>
    rw [ih]
    show (_ ++ [_]) ++ _ = _
    simp
/-- How long a latch's queue is, as it lies in memory. -/
def qlenAt (w : World) (g : Nat) : Nat := match w.cell? ⟨g, 2, none⟩ with
  | some (.slice _ n _) => n
  | _ => 0
theorem qlenAt_of {w : World} {g : Nat} {T : TypeId} {a b : Value} {ao : Option Addr} {n cap : Nat} (h : Blk w g T [a, b, .slice ao n cap]) : qlenAt w g = n := by
  unfold qlenAt
  rw [show w.cell? ⟨g, 2, none⟩ = some (.slice ao n cap) from h.cell 2]
theorem qkl_qk (s : Ls) (k : Int) : qkl s.q k = (s.qk k).map (·.1) := rfl
theorem grant_sum {s : Ls} {x : Wt} {r : List Wt} (hq : s.qk x.2.1 = x :: r) : (s.grant x).has.length = s.has.length + 1 ∧ (s.grant x).q.length + 1 ≤ s.q.length := by
  have hx : x ∈ s.q := (qk_mem.1 (by rw [hq]; exact List.mem_cons_self)).1
  have h1 : (s.q.filter (fun y => !(y.1 == x.1))).length < s.q.length := List.length_filter_lt_length_iff_exists.2 ⟨x, hx, by simp⟩
  refine ⟨?_, h1⟩
  show (s.has ++ [x]).length = _
  rw [List.length_append, List.length_singleton]
theorem steps_sum {K : Int → Prop} {s s' : Ls} {G : List Wt} (h : Steps K s G s') : s'.has.length + s'.q.length ≤ s.has.length + s.q.length ∧ G.length + s'.q.length ≤ s.q.length := by
  induction h with
  | nil => exact ⟨Nat.le_refl _, by simp⟩
  | cons hq _ hm _ ih =>
    have h1 := grant_sum hq
    rw [List.length_cons]
    omega
theorem Steps.snoc {K : Int → Prop} {s s' : Ls} {G : List Wt} {x : Wt} {r : List Wt} (h : Steps K s G s') (hq : s'.qk x.2.1 = x :: r) (hK : K x.2.1) (hm : mayG s'.has x = true) : Steps K s (G ++ [x]) (s'.grant x) := h.trans (.cons hq hK hm (.nil _))
section
variable {w w' : World} {own own' : Owner} {gt gl gh gw : Nat} {lb hb : Int → Nat} {KL TL : List Int} {c : Lc} {s : Ls} {R : Nat → Prop} {T : Tag}
/-- The memory's steps of one grant, up to hold. -/
theorem Lm.granted {H : List Wt} (h : Lm w own gt gl gh gw lb hb KL TL (s.ch H)) (hok : Lok s) {x : Wt} {r : List Wt} (hk : x.2.1 ∈ KL) (hq : s.qk x.2.1 = x :: r) (hs : s.has.length + s.q.length ≤ 10000) {v' : Value} (hqu : Qu w (Is own (tQ x.2.1)) v' (r.map (·.1))) {n : Nat} {a : Bool} {v : Value} (hbk : Blk w (lb x.2.1) 67 [.int .i64 (n : Int), .bool a, v]) (hn : n = cntS s.has x.2.1) (ha : a = anyA s.has x.2.1) :
    ∃ w3, (Builtin.delete_ #[50, 3] 0 #[.map (some gw), .int .i64 x.1]).run Try.prog (w.setCell ⟨lb x.2.1, 2, none⟩ v') = .ok (.tuple #[]) w3 ∧ Blk w3 (lb x.2.1) 67 [.int .i64 (n : Int), .bool a, v'] ∧ (w.setCell ⟨lb x.2.1, 2, none⟩ v').cell? ⟨gt, 2, none⟩ = some (.map (some gw)) ∧ Blk w3 gt 52 [.map (some gl), .map (some gh), .map (some gw)] ∧
      (x.2.2 = true → Lm (w3.setCell ⟨lb x.2.1, 1, none⟩ (.bool true)) own gt gl gh gw lb hb KL TL ⟨s.has ++ [x], H, (s.grant x).q, (s.grant x).q⟩ ∧ But (Wo own) w (w3.setCell ⟨lb x.2.1, 1, none⟩ (.bool true))) ∧
      (x.2.2 = false → Lm (w3.setCell ⟨lb x.2.1, 0, none⟩ (.int .i64 ((n + 1 : Nat) : Int))) own gt gl gh gw lb hb KL TL ⟨s.has ++ [x], H, (s.grant x).q, (s.grant x).q⟩ ∧ But (Wo own) w (w3.setCell ⟨lb x.2.1, 0, none⟩ (.int .i64 ((n + 1 : Nat) : Int)))) := by
  subst hn ha
  have hxq : x ∈ s.q := (qk_mem.1 (by rw [hq]; exact List.mem_cons_self)).1
  have k2 := But.set1 w (lb x.2.1) 2 v'
  have hL := h.olb _ hk
  have hnQ : ∀ j, Is own (tQ x.2.1) j → ¬ (j = lb x.2.1) := fun j hj e => tLQ _ _ (by rw [← hL, ← e]; exact hj)
  have hm2 := h.setQ (qq := (s.grant x).q) hk (Ext.refl own) (h.top.grow k2.size) (k2.mono (fun b _ e => .inl e)) (fun j hj => by
      show qkl (s.grant x).q j = qkl s.q j
      rw [qkl_qk, qkl_qk, grant_qk_ne hok hxq hj]) (v' := v') (fun u hu => by
      have := hu.set 2 v'
      exact this) (by
      rw [qkl_qk, grant_qk hok hq]
      exact hqu.but k2 hnQ (fun _ h => h)) (fun y hy => h.nok y (.inr (List.mem_filter.1 hy).1)) (by
      have := List.length_filter_le (fun y : Wt => !(y.1 == x.1)) s.q
      show (s.q.filter _).length ≤ _
      omega)
  have hb2 : Blk (w.setCell ⟨lb x.2.1, 2, none⟩ v') (lb x.2.1) 67 [.int .i64 (cntS s.has x.2.1 : Int), .bool (anyA s.has x.2.1), v'] := hbk.set 2 v'
  obtain ⟨w3, hr3, hw3, hb3, -⟩ := hm2.wai.del (t := 50) (et := 60) (l' := (s.grant x).q) keyIa Try.underlying50 (keyOfIa x.1 (hok.iq x hxq).1) (fun y => by
    show y ∈ s.q.filter _ ↔ _
    rw [List.mem_filter]
    constructor
    · rintro ⟨h1, h2⟩; exact ⟨h1, fun e => by rw [iv_inj e] at h2; simp at h2⟩
    · rintro ⟨h1, h2⟩; exact ⟨h1, by have : y.1 ≠ x.1 := fun e => h2 (by rw [e]); simpa using this⟩) 0
  have hm3 := hm2.setW hb3 hw3
  have hgwl : ¬ (lb x.2.1 = gw) := fun e => by
    have := hm2.ow
    rw [← e, hL] at this
    cases this
  have hb4 := hb2.but hb3 hgwl
  have kw : But (Wo own) w w3 := (k2.mono (fun b _ e => by rw [e]; show own _ ≠ _; rw [hL]; exact fun e => nomatch e)).trans (hb3.mono (fun b _ e => by rw [e]; show own _ ≠ _; rw [hm2.ow]; decide))
  have hcne : ∀ j, j ≠ x.2.1 → cntS (s.has ++ [x]) j = cntS s.has j ∧ anyA (s.has ++ [x]) j = anyA s.has j := fun j hj => by
    rw [cntS_append, anyA_append]
    have : (x.2.1 == j) = false := by simpa using fun e => hj e.symm
    constructor
    · simp [cntS, this]
    · simp [anyA, this]
  have hnk : ∀ y ∈ s.has ++ [x], y.2.1 ∈ KL := fun y hy => by
    rcases List.mem_append.1 hy with h1 | h1
    · exact h.nok y (.inl h1)
    · rw [show y = x by simpa using h1]; exact hk
  have hlen : (s.has ++ [x]).length ≤ 10000 := by
    have : 0 < s.q.length := List.length_pos_of_mem hxq
    rw [List.length_append, List.length_singleton]
    omega
  refine ⟨w3, hr3, hb4, hm2.blk.cell 2, hm3.blk, fun hx => ?_, fun hx => ?_⟩
  · have k4 := But.set1 w3 (lb x.2.1) 1 (.bool true)
    refine ⟨hm3.setC (hc := s.has ++ [x]) hk k4 hcne (fun u hu => ?_) hnk hlen, kw.trans (k4.mono (fun b _ e => by rw [e]; show own _ ≠ _; rw [hL]; exact fun e => nomatch e))⟩
    have h5 := hu.set 1 (.bool true)
    have e1 : cntS (s.has ++ [x]) x.2.1 = cntS s.has x.2.1 := by rw [cntS_append]; simp [cntS, hx]
    have e2 : anyA (s.has ++ [x]) x.2.1 = true := by rw [anyA_append]; simp [anyA, hx]
    rw [e1, e2]
    exact h5
  · have k4 := But.set1 w3 (lb x.2.1) 0 (.int .i64 ((cntS s.has x.2.1 + 1 : Nat) : Int))
    refine ⟨hm3.setC (hc := s.has ++ [x]) hk k4 hcne (fun u hu => ?_) hnk hlen, kw.trans (k4.mono (fun b _ e => by rw [e]; show own _ ≠ _; rw [hL]; exact fun e => nomatch e))⟩
    have h5 := hu.set 0 (.int .i64 ((cntS s.has x.2.1 + 1 : Nat) : Int))
    have e1 : cntS (s.has ++ [x]) x.2.1 = cntS s.has x.2.1 + 1 := by rw [cntS_append]; simp [cntS, hx]
    have e2 : anyA (s.has ++ [x]) x.2.1 = anyA s.has x.2.1 := by rw [anyA_append]; simp [anyA, hx]
    rw [e1, e2]
    exact h5
/-- With the latch taken. -/
theorem Lm.taken {H : List Wt} (h : Lm w own gt gl gh gw lb hb KL TL (s.ch H)) (hok : Lok s) {tk ky : Int} {al : Bool} {r : List Wt} (hk : ky ∈ KL) (hq : s.qk ky = (tk, ky, al) :: r) (hs : s.has.length + s.q.length ≤ 10000) {v' : Value} (hqu : Qu w (Is own (tQ ky)) v' (r.map (·.1))) {v : Value} (hbk : Blk w (lb ky) 67 [.int .i64 (cntS s.has ky : Int), .bool (anyA s.has ky), v]) :
    ∃ w3, (Builtin.delete_ #[50, 3] 0 #[.map (some gw), .int .i64 tk]).run Try.prog (w.setCell ⟨lb ky, 2, none⟩ v') = .ok (.tuple #[]) w3 ∧ (w.setCell ⟨lb ky, 2, none⟩ v').cell? ⟨gt, 2, none⟩ = some (.map (some gw)) ∧
      Calls Try.prog 32 #[ptr (lb ky), .bool al] w3 (fun e w4 => e = .returned (.int .i64 (mode (tk, ky, al))) ∧ Lm w4 own gt gl gh gw lb hb KL TL ⟨s.has ++ [(tk, ky, al)], H, (s.grant (tk, ky, al)).q, (s.grant (tk, ky, al)).q⟩ ∧ But (Wo own) w w4) := by
  obtain ⟨w3, hr3, hb4, cg2, -, hA, hB⟩ := h.granted (x := (tk, ky, al)) hok hk hq hs hqu hbk rfl rfl
  refine ⟨w3, hr3, cg2, ?_⟩
  have hcn : cntS s.has ky ≤ 100000 := by
    have h1 : cntS s.has ky ≤ s.has.length := List.length_filter_le _ _
    omega
  cases al with
  | true =>
    refine Calls.mono (ltake_alone hb4) ?_
    rintro e w' ⟨rfl, rfl⟩
    exact ⟨rfl, hA rfl⟩
  | false =>
    refine Calls.mono (ltake_shared hb4 hcn) ?_
    rintro e w' ⟨rfl, rfl⟩
    exact ⟨rfl, hB rfl⟩
set_option maxRecDepth 100000 in
set_option maxHeartbeats 8000000 in
theorem lsettle_h {H : List Wt} (h : Lm w own gt gl gh gw lb hb KL TL (s.ch H)) (hH : ∀ y ∈ H, y ∈ s.has) (hok : Lok s) {k : Int} (hi : i64 k) (hk : k ∈ KL) (hs : s.has.length + s.q.length ≤ 10000) : Calls Try.prog 23 #[ptr gt, .int .i64 k] w (SetToH w own gt s H k) := by
  have HLK := Hid.mk' ((h.lookL hi).1 hk)
  have c0 : w.cell? ⟨gt, 0, none⟩ = some (.map (some gl)) := h.blk.cell 0
  have HH := Hid.mk' h
  have HOK0 := Hid.mk' hok
  have HI := Hid.mk' hi
  have HK := Hid.mk' hk
  have HS := Hid.mk' hs
  have HHS := Hid.mk' hH
  clear h hok hi hk hs hH
  go_enter Try.func23, Try.ntmps23
  go_wp2_with (first
    | (refine wpList_runH rfl (exec_lookup rfl rfl rfl HLK.out) ?_)
    | fail)
  clear c0
  go_loopw [6, 7, 8] (fun rv _ _ wr => ∃ (r : Value) (G : List Wt) (S : Ls) (own1 : Owner) (hb1 : Int → Nat) (TL1 : List Int), r = rv ∧ Steps (· = k) s G S ∧ Lm wr own1 gt gl gh gw lb hb1 KL TL1 (S.ch (H ++ G)) ∧ Lok S ∧ wr.ownsRow 0 3 1 r G.length (numv (G.map (·.1))) ∧ (∀ b, r.ownBlock = some b → w.heap.size ≤ b ∧ own1 b = .none) ∧ Sub w own own1 ∧ But (Wo own) w wr) (fun _ _ _ wr => qlenAt wr (lb k))
  case atStart => exact ⟨_, [], s, own, hb, TL, rfl, .nil _, (by rw [List.append_nil]; exact HH.out), HOK0.out, World.ownsRow_nil _ _ _ _, (fun b hb => by cases hb), Sub.refl _ _, But.refl _ _⟩
  case round =>
    clear HLK HH HOK0
    obtain ⟨r, G, S, own1, hb1, TL1, rfl, hst, hM, hlok, hrw, hrn, hsub, hbut⟩ := hrel
    obtain ⟨v, hbk, hqu⟩ := hM.each k HK.out
    have HM := Hid.mk' hM
    have HLOK := Hid.mk' hlok
    have HRW := Hid.mk' hrw
    have HRN := Hid.mk' hrn
    have HSUB := Hid.mk' hsub
    have HBUT := Hid.mk' hbut
    have HST := Hid.mk' hst
    have HSUM := Hid.mk' (Nat.le_trans (steps_sum hst).1 HS.out)
    have HGL : Hid (G.length ≤ 10000) := by show _ ≤ _; have := (steps_sum hst).2; have := HS.out; omega
    have HBK := Hid.mk' hbk
    have hqkl : qkl (S.ch (H ++ G)).qq k = (S.qk k).map (·.1) := rfl
    rw [hqkl] at hqu
    cases hq : S.qk k with
    | nil =>
      have HSB : Hid (Stb S k) := fun x r' e => by rw [hq] at e; cases e
      rw [hq] at hqu
      obtain ⟨va, vc, e1⟩ := hqu.len
      have e1' : v = .slice va 0 vc := e1
      subst e1'
      have c2 : wr.cell? ⟨lb k, 2, none⟩ = some (.slice va 0 vc) := hbk.cell 2
      clear hM hlok hrw hrn hsub hbut hst hbk hqu hqkl hq e1
      go_upto_region 11 with fail

      obtain ⟨fv, hfv⟩ : ∃ fv : Bool, fv = (!anyA S.has k && (!true || cntS S.has k == 0)) := ⟨_, rfl⟩
      have hfr := lfree_any (al := true) HBK.out
      rw [show (!anyA (S.ch (H ++ G)).hc k && (!true || cntS (S.ch (H ++ G)).hc k == 0)) = fv from hfv.symm] at hfr
      have HFR := Hid.mk' hfr
      have c0 : wr.cell? ⟨gt, 0, none⟩ = some (.map (some gl)) := HM.out.blk.cell 0
      obtain ⟨ra, rc, hrsl⟩ := own_sl HRW.out
      cases hfvc : fv with
      | false =>
        rw [hfvc] at HFR
        have HFIN : Hid (SetToH w own gt s H k (.returned r) wr) := ⟨r, rfl, G, S, own1, HST.out, HSB.out, ⟨gl, gh, gw, lb, hb1, KL, TL1, HM.out⟩, HLOK.out, HRW.out, HRN.out, HSUB.out, HBUT.out⟩
        subst hrsl
        clear hfr hfv hfvc
        go_wp2_with fail
        refine Calls.mono HFR.out ?_
        rintro e w' ⟨rfl, hw⟩
        have h2 := hw.symm
        subst h2
        clear hw
        go_wp2
        go_ret
        exact HFIN.out
      | true =>
        rw [hfvc] at HFR
        have hno : ∀ y, y ∈ S.has ∨ y ∈ S.q → y.2.1 ≠ k := by
          have h9 : anyA S.has k = false ∧ cntS S.has k = 0 := by
            rw [hfvc] at hfv
            cases ha : anyA S.has k with
            | true => rw [ha] at hfv; simp at hfv
            | false =>
              rw [ha] at hfv
              refine ⟨rfl, ?_⟩
              simpa using hfv
          have hha : ∀ y ∈ S.has, y.2.1 ≠ k := fun y hy e => by
            have h1 := anyA_not.1 h9.1 y hy e
            have h2 := cntS_zero.1 h9.2 y hy e
            rw [h1] at h2
            cases h2
          rintro y (hy | hy) e
          · exact hha y hy e
          · cases hq : S.qk k with
            | nil =>
              have : y ∈ S.qk k := qk_mem.2 ⟨hy, e⟩
              rw [hq] at this
              cases this
            | cons x r' =>
              have h3 := HSB.out x r' hq
              have h4 : mayG S.has x = true := mayG_iff.2 (fun z hz e2 => by
                have hxk : x.2.1 = k := (qk_mem.1 (by rw [hq]; exact List.mem_cons_self)).2
                exact absurd (by rw [e2, hxk]) (hha z hz))
              rw [h3] at h4
              cases h4
        obtain ⟨w9, hr9, hl9, hb9, -⟩ := HM.out.lat.del (t := 48) (et := 54) (l' := KL.filter (fun j => !(j == k))) keyIa Try.underlying48 (keyOfIa k HI.out) (fun j => by
          rw [List.mem_filter]
          constructor
          · rintro ⟨h1, h2⟩; exact ⟨h1, fun e => by rw [iv_inj e] at h2; simp at h2⟩
          · rintro ⟨h1, h2⟩; exact ⟨h1, by have : j ≠ k := fun e => h2 (by rw [e]); simpa using this⟩) 0
        have hm9 := HM.out.delL hb9 hl9 (fun j => by rw [List.mem_filter]; simp) hno
        have hgl9 : ∀ b, r.ownBlock = some b → ¬ (b = gl) := fun b hb e => by
          have := (HRN.out b hb).2
          rw [e, HM.out.ol] at this
          cases this
        have HFIN : Hid (SetToH w own gt s H k (.returned r) w9) := ⟨r, rfl, G, S, own1, HST.out, HSB.out, ⟨gl, gh, gw, lb, hb1, _, TL1, hm9⟩, HLOK.out, ownsRow_but HRW.out hb9 hgl9, HRN.out, HSUB.out, HBUT.out.then hb9 (fun b hb e => by
          rcases HSUB.out b (by rw [e, HM.out.ol]; decide) with h1 | h1
          · exact h1
          · omega)⟩
        have HR9 := Hid.mk' hr9
        subst hrsl
        clear hfr hfv hfvc hno hr9 hl9 hb9 hm9 hgl9
        go_wp2_with fail
        refine Calls.mono HFR.out ?_
        rintro e w' ⟨rfl, hw⟩
        have h2 := hw.symm
        subst h2
        clear hw
        go_wp2_with (first
          | (refine wpList_runH rfl (exec_delete rfl rfl rfl HR9.out) ?_)
          | fail)
        go_ret
        exact HFIN.out
    | cons x xs =>
      obtain ⟨tk, ky, al⟩ := x
      rw [hq] at hqu
      have hxk : ky = k := (qk_mem.1 (show (tk, ky, al) ∈ S.qk k by rw [hq]; exact List.mem_cons_self)).2
      have hxq : (tk, ky, al) ∈ S.q := (qk_mem.1 (show (tk, ky, al) ∈ S.qk k by rw [hq]; exact List.mem_cons_self)).1
      subst hxk
      obtain ⟨ql, hql⟩ : ∃ ql, ql = (xs.map (·.1)).length := ⟨_, rfl⟩
      obtain ⟨g, off, cap, v', e1, hc1, hcut, hqu', a', c', hv'⟩ := Qu.head (t := tk) (r := xs.map (·.1)) hqu
      rw [← hql] at e1 hv'
      subst e1
      subst hv'
      have c1 : wr.cell? ⟨g, off, none⟩ = some (.int .i64 tk) := hc1
      have c2 : wr.cell? ⟨lb ky, 2, none⟩ = some (.slice (some ⟨g, off, none⟩) (ql + 1) cap) := hbk.cell 2
      have f2 : wr.frozen? ⟨lb ky, 2, none⟩ = false := hbk.free 2
      have hitk : i64 tk := (hlok.iq _ hxq).1
      have hlw : (Instr.lookup 50 (.map (some gw)) (.int .i64 tk) false).run Try.prog wr = .ok (.agg #[.int .i64 ky, .bool al]) wr := (hM.lookW hitk false).1 _ hxq rfl
      have HLW := Hid.mk' hlw
      have cw : wr.cell? ⟨gt, 2, none⟩ = some (.map (some gw)) := hM.blk.cell 2
      have hfree := lfree_any (al := al) hbk
      have hfe : (!anyA (S.ch (H ++ G)).hc ky && (!al || cntS (S.ch (H ++ G)).hc ky == 0)) = mayG S.has (tk, ky, al) := rfl
      rw [hfe] at hfree
      have HFREE := Hid.mk' hfree
      have HCUT := Hid.mk' hcut
      have HQN := Hid.mk' (qlenAt_of hbk)
      have hqli : (ql : Int) ≤ 10000 := by
        have h1 := hM.lq
        have h2 : (S.qk ky).length ≤ S.q.length := List.length_filter_le _ _
        rw [hq, List.length_cons] at h2
        rw [List.length_map] at hql
        have h3 : S.q.length ≤ 10000 := h1
        omega
      clear hqu hqkl hfree hfe hlw hc1 hcut
      obtain ⟨mg, hmg⟩ : ∃ mg, mg = mayG S.has (tk, ky, al) := ⟨_, rfl⟩
      rw [← hmg] at HFREE
      have HMG := Hid.mk' hmg
      have HQ := Hid.mk' hq
      have HXQ := Hid.mk' hxq
      have HQU' := Hid.mk' hqu'
      have HQL := Hid.mk' hql
      clear hM hlok hrw hrn hsub hbut hst hbk hq hxq hmg hqu' hql hitk
      go_upto_region 6 with (first
        | (refine wpList_runH rfl (exec_lookup rfl rfl rfl HLW.out) ?_)
        | (refine wpList_runH rfl (exec_fld (v := .agg #[.int .i64 ky, .bool al]) (r := .bool al) rfl rfl (wt_al ky al wr)) ?_)
        | fail)
      clear c1 cw HLW
      go_wp2_with fail
      refine Calls.mono HFREE.out ?_
      rintro e w' ⟨rfl, hw⟩
      have h2 := hw.symm
      subst h2
      clear hw HFREE
      cases mg with
      | false =>
        have HSB : Hid (Stb S ky) := fun y r' e => by
          rw [HQ.out] at e
          cases e
          exact HMG.out.symm
        clear c2 f2 HCUT
        go_upto_region 11 with fail

        obtain ⟨fv, hfv⟩ : ∃ fv : Bool, fv = (!anyA S.has ky && (!true || cntS S.has ky == 0)) := ⟨_, rfl⟩
        have hfr := lfree_any (al := true) HBK.out
        rw [show (!anyA (S.ch (H ++ G)).hc ky && (!true || cntS (S.ch (H ++ G)).hc ky == 0)) = fv from hfv.symm] at hfr
        have HFR := Hid.mk' hfr
        have c0 : wr.cell? ⟨gt, 0, none⟩ = some (.map (some gl)) := HM.out.blk.cell 0
        obtain ⟨ra, rc, hrsl⟩ := own_sl HRW.out
        cases hfvc : fv with
        | false =>
          rw [hfvc] at HFR
          have HFIN : Hid (SetToH w own gt s H ky (.returned r) wr) := ⟨r, rfl, G, S, own1, HST.out, HSB.out, ⟨gl, gh, gw, lb, hb1, KL, TL1, HM.out⟩, HLOK.out, HRW.out, HRN.out, HSUB.out, HBUT.out⟩
          subst hrsl
          clear hfr hfv hfvc
          go_wp2_with fail
          refine Calls.mono HFR.out ?_
          rintro e w' ⟨rfl, hw⟩
          have h2 := hw.symm
          subst h2
          clear hw
          go_wp2
          go_ret
          exact HFIN.out
        | true =>
          rw [hfvc] at HFR
          have hno : ∀ y, y ∈ S.has ∨ y ∈ S.q → y.2.1 ≠ ky := by
            have h9 : anyA S.has ky = false ∧ cntS S.has ky = 0 := by
              rw [hfvc] at hfv
              cases ha : anyA S.has ky with
              | true => rw [ha] at hfv; simp at hfv
              | false =>
                rw [ha] at hfv
                refine ⟨rfl, ?_⟩
                simpa using hfv
            have hha : ∀ y ∈ S.has, y.2.1 ≠ ky := fun y hy e => by
              have h1 := anyA_not.1 h9.1 y hy e
              have h2 := cntS_zero.1 h9.2 y hy e
              rw [h1] at h2
              cases h2
            rintro y (hy | hy) e
            · exact hha y hy e
            · cases hq : S.qk ky with
              | nil =>
                have : y ∈ S.qk ky := qk_mem.2 ⟨hy, e⟩
                rw [hq] at this
                cases this
              | cons x r' =>
                have h3 := HSB.out x r' hq
                have h4 : mayG S.has x = true := mayG_iff.2 (fun z hz e2 => by
                  have hxk : x.2.1 = ky := (qk_mem.1 (by rw [hq]; exact List.mem_cons_self)).2
                  exact absurd (by rw [e2, hxk]) (hha z hz))
                rw [h3] at h4
                cases h4
          obtain ⟨w9, hr9, hl9, hb9, -⟩ := HM.out.lat.del (t := 48) (et := 54) (l' := KL.filter (fun j => !(j == ky))) keyIa Try.underlying48 (keyOfIa ky HI.out) (fun j => by
            rw [List.mem_filter]
            constructor
            · rintro ⟨h1, h2⟩; exact ⟨h1, fun e => by rw [iv_inj e] at h2; simp at h2⟩
            · rintro ⟨h1, h2⟩; exact ⟨h1, by have : j ≠ ky := fun e => h2 (by rw [e]); simpa using this⟩) 0
          have hm9 := HM.out.delL hb9 hl9 (fun j => by rw [List.mem_filter]; simp) hno
          have hgl9 : ∀ b, r.ownBlock = some b → ¬ (b = gl) := fun b hb e => by
            have := (HRN.out b hb).2
            rw [e, HM.out.ol] at this
            cases this
          have HFIN : Hid (SetToH w own gt s H ky (.returned r) w9) := ⟨r, rfl, G, S, own1, HST.out, HSB.out, ⟨gl, gh, gw, lb, hb1, _, TL1, hm9⟩, HLOK.out, ownsRow_but HRW.out hb9 hgl9, HRN.out, HSUB.out, HBUT.out.then hb9 (fun b hb e => by
            rcases HSUB.out b (by rw [e, HM.out.ol]; decide) with h1 | h1
            · exact h1
            · omega)⟩
          have HR9 := Hid.mk' hr9
          subst hrsl
          clear hfr hfv hfvc hno hr9 hl9 hb9 hm9 hgl9
          go_wp2_with fail
          refine Calls.mono HFR.out ?_
          rintro e w' ⟨rfl, hw⟩
          have h2 := hw.symm
          subst h2
          clear hw
          go_wp2_with (first
            | (refine wpList_runH rfl (exec_delete rfl rfl rfl HR9.out) ?_)
            | fail)
          go_ret
          exact HFIN.out
      | true =>
        have hxi := HLOK.out.iq _ HXQ.out
        obtain ⟨w3, hr3, cg2, htk⟩ := HM.out.taken HLOK.out HK.out HQ.out HSUM.out (v' := .slice a' ql c') HQU'.out HBK.out
        obtain ⟨md, hmd⟩ : ∃ md, md = mode (tk, ky, al) := ⟨_, rfl⟩
        rw [← hmd] at htk
        have hno : ∀ y ∈ H ++ G, y.1 = tk → y.2.1 ≠ ky := fun y hy e => (HLOK.out.dis _ HXQ.out y (by rw [steps_has HST.out]; exact (List.mem_append.1 hy).elim (fun h => List.mem_append_left _ (HHS.out y h)) (fun h => List.mem_append_right _ h)) e.symm).symm
        have HR3 := Hid.mk' hr3
        have HTK := Hid.mk' htk
        have HHO : Hid (∀ W4, Lm W4 own1 gt gl gh gw lb hb1 KL TL1 ⟨S.has ++ [(tk, ky, al)], H ++ G, (S.grant (tk, ky, al)).q, (S.grant (tk, ky, al)).q⟩ → Calls Try.prog 31 #[ptr gt, .int .i64 tk, .int .i64 ky, .int .i64 md] W4 fun e w' => e = .returned (.tuple #[]) ∧ HoldTo W4 own1 gt gl gh gw lb KL ((S.grant (tk, ky, al)).ch (H ++ G ++ [(tk, ky, al)])) w') := fun W4 hm4 => by
          rw [hmd]
          exact lhold_any hm4 (x := (tk, ky, al)) hxi.1 hxi.2 hno
        have HSTEP : Hid (Steps (· = ky) s (G ++ [(tk, ky, al)]) (S.grant (tk, ky, al))) := Steps.snoc HST.out HQ.out rfl HMG.out.symm
        have HLOK2 := Hid.mk' (HLOK.out.grant HXQ.out HMG.out.symm)
        have HQK2 : Hid (qkl (S.grant (tk, ky, al)).q ky = xs.map (·.1)) := by
          show _ = _
          have := grant_qk HLOK.out (x := (tk, ky, al)) HQ.out
          rw [qkl_qk, this]
        clear hxi hr3 htk hno hmd
        go_upto_region 9 with (first
          | (refine wpList_runH rfl (exec_slc rfl rfl rfl rfl (HCUT.out _)) ?_)
          | (refine wpList_runH rfl (exec_delete rfl rfl rfl HR3.out) ?_)
          | fail)
        clear c2 f2 cg2 HCUT
        go_wp2_with fail
        refine Calls.mono HTK.out ?_
        rintro e W4 ⟨rfl, hm4, hbw4⟩
        have HHO4 := Hid.mk' (HHO.out W4 hm4)
        have HBW4 := Hid.mk' hbw4
        clear hm4 hbw4 HHO HTK
        go_wp2_with fail
        refine Calls.mono HHO4.out ?_
        rintro e w5 ⟨rfl, own2, hb2, TL2, hm5, hs5, hbw5⟩
        have hrk : But (Wo own1) wr w5 := HBW4.out.trans hbw5
        have hz4 := HBW4.out.size
        have HZ5 := Hid.mk' hrk.size
        have HRW5 : Hid (w5.ownsRow 0 3 1 r G.length (numv (G.map (·.1)))) := ownsRow_but HRW.out hrk (fun j hj e => e (HRN.out j hj).2)
        have HR2N : Hid (∀ b, r.ownBlock = some b → own2 b = .none) := fun b hb => by
          cases h9 : own2 b with
          | none => rfl
          | _ =>
            exfalso
            rcases hs5 b (by rw [h9]; exact fun e => nomatch e) with h1 | h1
            · exact h1 (HRN.out b hb).2
            · have := (HRW.out.lt b hb).2; omega
        have HM5 := Hid.mk' hm5
        have HSUB2 : Hid (Sub w own own2) := HSUB.out.trans (Nat.le_trans HBUT.out.size hz4) hs5
        have HBUT5 : Hid (But (Wo own) w w5) := HBUT.out.then hrk (fun b hb e => by
          rcases HSUB.out b e with h1 | h1
          · exact h1
          · omega)
        have HAL : Hid (Grow w5 (w5.alloc (.cells #[.int .i64 tk] 3))) := (But.refl _ w5).alloc _
        have HBL : Hid (Blk (w5.alloc (.cells #[.int .i64 tk] 3)) w5.heap.size 3 (numv [tk])) := Blk.new (L := numv [tk]) rfl
        clear hrk hs5 hbw5 hm5 hz4
        go_wp2_with (first
          | (refine wpList_runH rfl (exec_row1 Try.underlying33 infNum (by decide) (by decide) rfl rfl rfl) ?_)
          | (refine wpList_someH rfl (exec_append (v := r) (n := G.length) (xs := numv (G.map (·.1))) (news := numv [tk]) Try.underlying33 infNum rfl (by decide) rfl rfl (ownsRow_grow HRW5.out HAL.out) rfl rfl (fun j u hj => HBL.out.cells0 j u hj) (fun u hu => by rw [show u = .int .i64 tk by simpa [numv] using hu]; rfl) (by have := HGL.out; omega) (by decide)) ?_; intro v7 w7 hap)
          | fail)
        have hap' : Appd (w5.alloc (.cells #[.int .i64 tk] 3)) w7 3 1 r v7 (G.length + 1) (numv (G.map (·.1)) ++ numv [tk]) := hap
        have hm7 := (HM5.out.grow HAL.out).but hap'.but (fun b hb e => hb (HR2N.out b e))
        refine ⟨⟨v7, G ++ [(tk, ky, al)], S.grant (tk, ky, al), own2, hb2, TL2, rfl, HSTEP.out, (by rw [← List.append_assoc]; exact hm7), HLOK2.out, ?_, fun b hb => ?_, HSUB2.out, ?_⟩, ?_⟩
        · rw [List.length_append, List.length_singleton, List.map_append, show numv (G.map (·.1) ++ [(tk, ky, al)].map (·.1)) = numv (G.map (·.1)) ++ numv [tk] by simp [numv]]
          exact hap'.own
        · rcases hap'.at' with e | e
          · rw [e] at hb
            exact ⟨(HRN.out b hb).1, HR2N.out b hb⟩
          · rw [e] at hb
            have h1 := Option.some.inj hb
            have h2 := HAL.out.size
            have h3 := HBUT5.out.size
            exact ⟨by omega, HM5.out.top b (by omega)⟩
        · exact (HBUT5.out.trans (HAL.out.mono (fun _ _ h => h.elim))).then hap'.but (fun b hb e => by have := (HRN.out b e).1; omega)
        · obtain ⟨u, hbu, hqu⟩ := hm7.each ky HK.out
          obtain ⟨ua, uc, hul⟩ := hqu.len
          subst hul
          have h1 := qlenAt_of hbu
          have h2 : (qkl ((S.grant (tk, ky, al)).ch (H ++ G ++ [(tk, ky, al)])).qq ky).length = ql := by
            show (qkl (S.grant (tk, ky, al)).q ky).length = ql
            rw [HQK2.out, HQL.out]
          show qlenAt w7 (lb ky) < qlenAt wr (lb ky)
          rw [h1, h2, HQN.out]
          omega
theorem lsettle_any (h : Lm w own gt gl gh gw lb hb KL TL s.c) (hok : Lok s) {k : Int} (hi : i64 k) (hk : k ∈ KL) (hs : s.has.length + s.q.length ≤ 10000) : Calls Try.prog 23 #[ptr gt, .int .i64 k] w (SetTo w own gt s k) := by
  refine Calls.mono (lsettle_h (H := s.has) h (fun _ h => h) hok hi hk hs) ?_
  rintro e w' ⟨v, h0, G, s', own', h1, h2, h3, h4⟩
  rw [← steps_has h1] at h3
  exact ⟨v, h0, G, s', own', h1, h2, h3, h4⟩
end
end Go.Proofs.Ytgldkckhliklhaa
