/- The program's frames in memory. -/
import Derived.Test.YtmlklmhochihbaaFrMath
import Derived.Test.YtmlklmhochihbaaMapOf
namespace Go.Proofs.Ytmlklmhochihbaa
open Go.RowKit Go.Maps

/-- Whose a block is: bytes, or the frame of a key. -/
abbrev tByt : Tag := .row 0
def kn (k : Int) : Nat := match k with
  | .ofNat n => 2 * n + 1
  | .negSucc n => 2 * n + 2
abbrev tFr (k : Int) : Tag := .row (kn k)
theorem kn_inj {a b : Int} (h : kn a = kn b) : a = b := by
  unfold kn at h
  cases a with
  | ofNat a =>
    cases b with
    | ofNat b => simp only at h; rw [show a = b by omega]
    | negSucc b => simp only at h; omega
  | negSucc a =>
    cases b with
    | ofNat b => simp only at h; omega
    | negSucc b => simp only at h; rw [show a = b by omega]
theorem kn_pos (a : Int) : kn a ≠ 0 := by unfold kn; cases a <;> simp
theorem tFr_inj {a b : Int} (h : tFr a = tFr b) : a = b := kn_inj (by simpa using h)
theorem tFr_byt (a : Int) : tFr a ≠ tByt := fun h => kn_pos a (by simpa using h)
abbrev iv (k : Int) : Value := .int .i64 k
abbrev pinV (p : Int × Int) : Value := .agg #[.int .i64 p.1, .int .i64 p.2]
abbrev unitV : Value := .agg #[]
abbrev ptr (g : Nat) : Value := .pointer (some ⟨g, 0, none⟩)
theorem lo_progF : laidOutB Try.prog = true := by kernel_rfl
theorem keyPin : Keyed Try.prog 96 := Keyed.of_law (deep_law_laid lo_progF (m := 4) (by decide) (of_decide_eq_true (by kernel_rfl)) (by kernel_rfl) (by kernel_rfl))
theorem pinF : Try.prog.underlying 96 = some (.struct #[⟨ "task", 3, 0, false, "", "thimble/frames", 0⟩, ⟨ "key", 3, 1, false, "", "thimble/frames", 8⟩]) := by kernel_rfl
theorem wfI64 {K : Int} (h : i64 K) : (Lit.int .i64 K).wf = true := by
  have e1 : IntKind.i64.min = -9223372036854775808 := rfl
  have e2 : IntKind.i64.max = 9223372036854775807 := rfl
  simp only [Lit.wf, e1, e2, Bool.and_eq_true, decide_eq_true_eq]
  exact h
theorem keyOfPin {p : Int × Int} (h1 : i64 p.1) (h2 : i64 p.2) : ∃ l, keyOf Try.prog 96 (pinV p) = some l := by
  obtain ⟨m, hm⟩ : ∃ m, Try.prog.types.size = m + 2 := ⟨Try.prog.types.size - 2, by have : 2 ≤ Try.prog.types.size := of_decide_eq_true (by kernel_rfl); omega⟩
  have c1 : Try.prog.cellsOf 3 = 1 := by kernel_rfl
  have c2 : Try.prog.cellsOf 96 = 2 := by kernel_rfl
  have hf : Value.formed Try.prog 96 (pinV p) = true := by simp [Value.formed, c2]
  have hk : Try.prog.keyType 96 = true := by kernel_rfl
  have hi : ∀ K, i64 K → Try.prog.keyLits (m + 2) 3 [.int .i64 K] = some [.int .i64 K] := fun K hK => by
    unfold Program.keyLits
    simp only [Try.underlying3, wfI64 hK]
    simp
  have e1 : (([.int .i64 p.1, .int .i64 p.2] : List Value).drop 0).take 1 = [.int .i64 p.1] := rfl
  have e2 : (([.int .i64 p.1, .int .i64 p.2] : List Value).drop 1).take 1 = [.int .i64 p.2] := rfl
  have hs : Try.prog.keyLits (m + 3) 96 [.int .i64 p.1, .int .i64 p.2] = some [.int .i64 p.1, .int .i64 p.2] := by
    unfold Program.keyLits
    simp only [pinF, c2, List.mapM_cons, List.mapM_nil, c1, e1, e2, hi _ h1, hi _ h2]
    simp
  refine ⟨.string (keyBytes [.int .i64 p.1, .int .i64 p.2]), ?_⟩
  simp only [keyOf, pinF, hk, hf, Bool.and_self, if_true, hm]
  rw [show m + 2 + 1 = m + 3 by rfl]
  show Option.map _ (Try.prog.keyLits (m + 3) 96 [.int .i64 p.1, .int .i64 p.2]) = _
  rw [hs]; rfl
theorem pinV_inj {p q : Int × Int} (h : pinV p = pinV q) : p = q := by
  simp at h
  exact Prod.ext h.1 h.2
theorem iv_inj {a b : Int} (h : iv a = iv b) : a = b := by simpa using h
abbrev tcl (most : Nat) (left : Int) (gr gf gp gh : Nat) : List Value := [.int .i64 (most : Int), .int .i64 left, .map (some gr), .map (some gf), .map (some gp), ptr gh]
abbrev fcl (v : Value) (wr : Bool) (n : Nat) : List Value := [v, .bool wr, .int .i64 (n : Int)]
/-- The table at gt, its maps and frames; PL: the pins, each once. -/
structure Fm (w : World) (own : Owner) (gt gr gf gp gh gm : Nat) (fb : Int → Nat) (PL : List (Int × Int)) (s : St) : Prop where
  blk : Blk w gt 85 (tcl s.most s.left gr gf gp gh)
  res : MapOf 3 w gr (fun p : Int × Int => iv p.1) (fun p => iv p.2) s.sh
  frm : MapOf 3 w gf iv (fun k => ptr (fb k)) s.keys
  pin : MapOf 96 w gp pinV (fun _ => unitV) PL
  pnd : PL.Nodup
  pmem : ∀ x, x ∈ PL ↔ x ∈ s.pins
  each : ∀ e ∈ s.fr, ∃ v, Blk w (fb e.1) 89 (fcl v e.2.2 (cnt PL e.1)) ∧ Bf w (Is own tByt) v e.2.1
  ht : HtM w gh gm 16 s.now (look s.hl)
  ot : own gt = .dev
  ort : own gr = .sto
  ogf : own gf = .map
  ogp : own gp = .wri
  ogh : own gh = .imr
  ogm : own gm = .pic
  ofb : ∀ e ∈ s.fr, own (fb e.1) = tFr e.1
  ok : Sok s
  pl : s.pins.length ≤ 100000
  top : Top w own
/-- Blocks that the table writes into. -/
abbrev Wr (own : Owner) : Nat → Prop := fun b => own b ≠ .none ∧ own b ≠ tByt
def Ft (w : World) (own : Owner) (gt : Nat) (s : St) : Prop := ∃ gr gf gp gh gm fb PL, Fm w own gt gr gf gp gh gm fb PL s
structure FtTo (w : World) (own : Owner) (gt : Nat) (s : St) (w' : World) : Prop where
  ex : ∃ own', Ft w' own' gt s ∧ Ext own own' ∧ Fresh w own own'
  but : But (Wr own) w w'
section
variable {w w' : World} {own own' : Owner} {gt gr gf gp gh gm : Nat} {fb : Int → Nat} {PL : List (Int × Int)} {s s' : St} {R : Nat → Prop}
theorem Fm.but (h : Fm w own gt gr gf gp gh gm fb PL s) (k : But R w w') (hr : ∀ b, own b ≠ .none → ¬ R b) : Fm w' own gt gr gf gp gh gm fb PL s :=
  ⟨h.blk.but k (hr _ (by rw [h.ot]; decide)), h.res.but k (hr _ (by rw [h.ort]; decide)), h.frm.but k (hr _ (by rw [h.ogf]; decide)), h.pin.but k (hr _ (by rw [h.ogp]; decide)), h.pnd, h.pmem,
   fun e he => by
    obtain ⟨v, h1, h2⟩ := h.each e he
    exact ⟨v, h1.but k (hr _ (by rw [h.ofb e he]; exact fun e => nomatch e)), h2.but k (fun j hj => hr j (by rw [show own j = tByt from hj]; exact fun e => nomatch e))⟩,
   h.ht.but k (hr _ (by rw [h.ogh]; decide)) (hr _ (by rw [h.ogm]; decide)), h.ot, h.ort, h.ogf, h.ogp, h.ogh, h.ogm, h.ofb, h.ok, h.pl, h.top.grow k.size⟩
theorem Fm.grow (h : Fm w own gt gr gf gp gh gm fb PL s) (k : Grow w w') : Fm w' own gt gr gf gp gh gm fb PL s := h.but k (fun _ _ h => h)
theorem Ft.but (h : Ft w own gt s) (k : But R w w') (hr : ∀ b, own b ≠ .none → ¬ R b) : Ft w' own gt s := by
  obtain ⟨gr, gf, gp, gh, gm, fb, PL, h⟩ := h
  exact ⟨gr, gf, gp, gh, gm, fb, PL, h.but k hr⟩
theorem Ft.grow (h : Ft w own gt s) (k : Grow w w') : Ft w' own gt s := h.but k (fun _ _ h => h)
theorem Ft.ok (h : Ft w own gt s) : Sok s := by obtain ⟨gr, gf, gp, gh, gm, fb, PL, h⟩ := h; exact h.ok
theorem Ft.top (h : Ft w own gt s) : Top w own := by obtain ⟨gr, gf, gp, gh, gm, fb, PL, h⟩ := h; exact h.top
theorem Ft.now (h : Ft w own gt s) : s.now ≤ 1000000 := by obtain ⟨gr, gf, gp, gh, gm, fb, PL, h⟩ := h; exact h.ht.nw
theorem Ft.same (h : Ft w own gt s) (k : Grow w w') : FtTo w own gt s w' := ⟨⟨own, h.grow k, Ext.refl _, Fresh.refl _ _⟩, k.mono (fun _ _ h => h.elim)⟩
theorem FtTo.grow {w2 : World} (h : FtTo w own gt s w') (k : Grow w' w2) : FtTo w own gt s w2 := by
  obtain ⟨o, h1, h2, h3⟩ := h.ex
  exact ⟨⟨o, h1.grow k, h2, h3⟩, h.but.trans (k.mono (fun _ _ h => h.elim))⟩
theorem Fm.kd (h : Fm w own gt gr gf gp gh gm fb PL s) : (s.keys.map iv).Nodup := nodup_map (fun _ _ _ _ e => iv_inj e) h.ok.nd
theorem Fm.cl (h : Fm w own gt gr gf gp gh gm fb PL s) (k : Int) : cnt PL k ≤ 100000 :=
  Nat.le_trans (cnt_le _ _) (Nat.le_trans (nodup_len h.pnd (fun x hx => (h.pmem x).1 hx)) h.pl)
theorem Fm.pinned (h : Fm w own gt gr gf gp gh gm fb PL s) (k : Int) : decide (0 < cnt PL k) = s.pinned k := cnt_pos h.pmem k
/-- Of shares. -/
theorem Fm.shrd {sh : List (Int × Int)} (h : Fm w own gt gr gf gp gh gm fb PL s) (k : But (fun b => b = gr ∨ b = gt) w w') (hok : Sok { s with sh := sh })
    (hb : Blk w' gt 85 (tcl s.most ({ s with sh := sh } : St).left gr gf gp gh)) (hr : MapOf 3 w' gr (fun p : Int × Int => iv p.1) (fun p => iv p.2) sh) : Fm w' own gt gr gf gp gh gm fb PL { s with sh := sh } := by
  have ne : ∀ b t, own b = t → t ≠ .dev → t ≠ .sto → ¬ (b = gr ∨ b = gt) := fun b t e h1 h2 e2 => by
    rcases e2 with e2 | e2
    · rw [e2, h.ort] at e; exact h2 e.symm
    · rw [e2, h.ot] at e; exact h1 e.symm
  exact ⟨hb, hr, h.frm.but k (ne _ _ h.ogf (by decide) (by decide)), h.pin.but k (ne _ _ h.ogp (by decide) (by decide)), h.pnd, h.pmem,
    fun e he => by
      obtain ⟨v, h1, h2⟩ := h.each e he
      exact ⟨v, h1.but k (ne _ _ (h.ofb e he) (fun e => nomatch e) (fun e => nomatch e)), h2.but k (fun j hj => ne _ _ hj (fun e => nomatch e) (fun e => nomatch e))⟩,
    h.ht.but k (ne _ _ h.ogh (by decide) (by decide)) (ne _ _ h.ogm (by decide) (by decide)), h.ot, h.ort, h.ogf, h.ogp, h.ogh, h.ogm, h.ofb, hok, h.pl, h.top.grow k.size⟩
/-- Of heats. -/
theorem Fm.heatd {n : Nat} {hl : List Sp} (h : Fm w own gt gr gf gp gh gm fb PL s) (k : HtTo w gh gm 16 n (look hl) w') : Fm w' own gt gr gf gp gh gm fb PL { s with now := n, hl := hl } := by
  have ne : ∀ b t, own b = t → t ≠ .imr → t ≠ .pic → ¬ (b = gh ∨ b = gm) := fun b t e h1 h2 e2 => by
    rcases e2 with e2 | e2
    · rw [e2, h.ogh] at e; exact h1 e.symm
    · rw [e2, h.ogm] at e; exact h2 e.symm
  exact ⟨h.blk.but k.but (ne _ _ h.ot (by decide) (by decide)), h.res.but k.but (ne _ _ h.ort (by decide) (by decide)), h.frm.but k.but (ne _ _ h.ogf (by decide) (by decide)), h.pin.but k.but (ne _ _ h.ogp (by decide) (by decide)), h.pnd, h.pmem,
    fun e he => by
      obtain ⟨v, h1, h2⟩ := h.each e he
      exact ⟨v, h1.but k.but (ne _ _ (h.ofb e he) (fun e => nomatch e) (fun e => nomatch e)), h2.but k.but (fun j hj => ne _ _ hj (fun e => nomatch e) (fun e => nomatch e))⟩,
    k.ht, h.ot, h.ort, h.ogf, h.ogp, h.ogh, h.ogm, h.ofb, ⟨h.ok.m1, h.ok.m2, h.ok.nd, h.ok.le, h.ok.ik, h.ok.pk, h.ok.tn, h.ok.sk, h.ok.sl⟩, h.pl, h.top.grow k.but.size⟩
theorem Fm.fbne (h : Fm w own gt gr gf gp gh gm fb PL s) {e : FrE} (he : e ∈ s.fr) {b : Nat} {t : Tag} (hb : own b = t) (ht : t ≠ tFr e.1) : ¬ (b = fb e.1) := fun e2 => by
  rw [e2, h.ofb e he] at hb; exact ht hb.symm
/-- One frame has other bytes, another mark. -/
theorem Fm.store (h : Fm w own gt gr gf gp gh gm fb PL s) {e0 : FrE} (he0 : e0 ∈ s.fr) {v : Value} {b : List Nat} {wr : Bool} (hx : Ext own own') (htop : Top w' own') (k : But (· = fb e0.1) w w') (hl : b.length ≤ 1000000)
    (hb : Blk w' (fb e0.1) 89 (fcl v wr (cnt PL e0.1))) (hv : Bf w' (Is own' tByt) v b) : Fm w' own' gt gr gf gp gh gm fb PL { s with fr := s.fr.map (fun e => if e.1 == e0.1 then (e.1, b, wr) else e) } := by
  have hk : (s.fr.map (fun e : FrE => if e.1 == e0.1 then (e.1, b, wr) else e)).map (·.1) = s.fr.map (·.1) := by
    rw [List.map_map]
    apply List.map_congr_left
    intro e _
    simp only [Function.comp]
    split <;> rfl
  have hh : ∀ j, St.has { s with fr := s.fr.map (fun e => if e.1 == e0.1 then (e.1, b, wr) else e) } j = s.has j := fun j => by
    rw [Bool.eq_iff_iff]
    unfold St.has
    rw [hasK_keys, hasK_keys, hk]
  have hke : ({ s with fr := s.fr.map (fun e => if e.1 == e0.1 then (e.1, b, wr) else e) } : St).keys = s.keys := hk
  have tg : ∀ {g : Nat} {t : Tag}, own g = t → t ≠ .none → own' g = t := fun {g t} h1 h2 => (hx g (by rw [h1]; exact h2)).trans h1
  refine ⟨h.blk.but k (h.fbne he0 h.ot (fun e => nomatch e)), h.res.but k (h.fbne he0 h.ort (fun e => nomatch e)), ?_, h.pin.but k (h.fbne he0 h.ogp (fun e => nomatch e)), h.pnd, h.pmem, fun e he => ?_,
    h.ht.but k (h.fbne he0 h.ogh (fun e => nomatch e)) (h.fbne he0 h.ogm (fun e => nomatch e)), tg h.ot (by decide), tg h.ort (by decide), tg h.ogf (by decide), tg h.ogp (by decide), tg h.ogh (by decide), tg h.ogm (by decide), fun e he => ?_,
    ⟨h.ok.m1, h.ok.m2, by show (List.map _ (List.map _ _)).Nodup; rw [hk]; exact h.ok.nd, by show (List.map _ _).length ≤ _; rw [List.length_map]; exact h.ok.le, fun e he => ?_, fun p hp => ?_, h.ok.tn, h.ok.sk, h.ok.sl⟩, h.pl, htop⟩
  · rw [hke]; exact h.frm.but k (h.fbne he0 h.ogf (fun e => nomatch e))
  · obtain ⟨x, hxm, rfl⟩ := List.mem_map.1 he
    by_cases hxk : x.1 = e0.1
    · have hq : (x.1 == e0.1) = true := by simpa using hxk
      simp only [hq, if_true]
      rw [hxk]
      exact ⟨v, hb, hv⟩
    · have hq : (x.1 == e0.1) = false := by simpa using hxk
      simp only [hq]
      obtain ⟨u, h1, h2⟩ := h.each x hxm
      refine ⟨u, h1.but k (h.fbne he0 (h.ofb x hxm) (fun e => hxk (tFr_inj e))), ?_⟩
      have h3 := h2.but k (fun j hj => h.fbne he0 hj (fun e => tFr_byt _ e.symm))
      exact ⟨h3.1, fun h0 j hj => tg (h3.2 h0 j hj) (fun e => nomatch e)⟩
  · obtain ⟨x, hxm, rfl⟩ := List.mem_map.1 he
    by_cases hxk : (x.1 == e0.1) = true
    · simp only [hxk, if_true]; exact tg (h.ofb x hxm) (fun e => nomatch e)
    · simp only [hxk]; exact tg (h.ofb x hxm) (fun e => nomatch e)
  · obtain ⟨x, hxm, rfl⟩ := List.mem_map.1 he
    have := h.ok.ik x hxm
    by_cases hxk : (x.1 == e0.1) = true
    · simp only [hxk, if_true]; exact ⟨this.1, hl⟩
    · simp only [hxk]; exact this
  · rw [hh]; exact h.ok.pk p hp
end
end Go.Proofs.Ytmlklmhochihbaa
