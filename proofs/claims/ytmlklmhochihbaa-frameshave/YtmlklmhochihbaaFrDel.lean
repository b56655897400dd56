/- frames: Free: all pins of a task are taken out. -/
import Derived.Test.YtmlklmhochihbaaFrFree
namespace Go.Proofs.Ytmlklmhochihbaa
open Go.RowKit Go.Maps

section
variable {w w' : World} {own own' : Owner} {gt gr gf gp gh gm : Nat} {fb : Int → Nat} {PL : List (Int × Int)} {s s' : St} {R : Nat → Prop}
theorem Fm.pinsAs {l : List (Int × Int)} (h : Fm w own gt gr gf gp gh gm fb PL s) (hm : ∀ x, x ∈ PL ↔ x ∈ l) (hl : l.length ≤ 100000) : Fm w own gt gr gf gp gh gm fb PL { s with pins := l } :=
  ⟨h.blk, h.res, h.frm, h.pin, h.pnd, hm, h.each, h.ht, h.ot, h.ort, h.ogf, h.ogp, h.ogh, h.ogm, h.ofb, ⟨h.ok.m1, h.ok.m2, h.ok.nd, h.ok.le, h.ok.ik, fun p hp => h.ok.pk p ((h.pmem p).1 ((hm p).2 hp)), h.ok.tn, h.ok.sk, h.ok.sl⟩, hl, h.top⟩
/-- A pin less. -/
theorem Fm.unpin {x : Int × Int} (h : Fm w own gt gr gf gp gh gm fb PL { s with pins := PL }) {e0 : FrE} (he0 : e0 ∈ s.fr) (hx2 : e0.1 = x.2) {v : Value} (k : But (fun b => b = gp ∨ b = fb x.2) w w')
    (hb : Blk w' (fb x.2) 89 (fcl v e0.2.2 (cnt (PL.erase x) x.2))) (hv : Bf w (Is own tByt) v e0.2.1) (hx : x ∈ PL) (hm : MapOf 96 w' gp pinV (fun _ => unitV) (PL.erase x)) :
    Fm w' own gt gr gf gp gh gm fb (PL.erase x) { s with pins := PL.erase x } := by
  have ne : ∀ b t, own b = t → t ≠ .wri → t ≠ tFr x.2 → ¬ (b = gp ∨ b = fb x.2) := fun b t e h1 h2 e2 => by
    rcases e2 with e2 | e2
    · rw [e2, h.ogp] at e; exact h1 e.symm
    · have h3 := h.ofb e0 he0
      rw [hx2] at h3
      rw [e2, h3] at e; exact h2 e.symm
  refine ⟨h.blk.but k (ne _ _ h.ot (by decide) (fun e => nomatch e)), h.res.but k (ne _ _ h.ort (by decide) (fun e => nomatch e)), h.frm.but k (ne _ _ h.ogf (by decide) (fun e => nomatch e)), hm, h.pnd.erase _, fun _ => Iff.rfl, fun e he => ?_,
    h.ht.but k (ne _ _ h.ogh (by decide) (fun e => nomatch e)) (ne _ _ h.ogm (by decide) (fun e => nomatch e)), h.ot, h.ort, h.ogf, h.ogp, h.ogh, h.ogm, h.ofb, ⟨h.ok.m1, h.ok.m2, h.ok.nd, h.ok.le, h.ok.ik, fun p hp => h.ok.pk p (List.mem_of_mem_erase hp), h.ok.tn, h.ok.sk, h.ok.sl⟩, ?_, h.top.grow k.size⟩
  · by_cases hk : e.1 = x.2
    · have e1 : e = e0 := one_key h.ok.nd he he0 (by rw [hk, hx2])
      rw [e1, hx2]
      exact ⟨v, hb, hv.but k (fun j hj => ne _ _ hj (fun e => nomatch e) (fun e => tFr_byt _ e.symm))⟩
    · obtain ⟨u, h1, h2⟩ := h.each e he
      have hc : cnt (PL.erase x) e.1 = cnt PL e.1 := by
        rw [cnt_perm (List.perm_cons_erase hx) e.1, cnt_cons, if_neg (fun e2 => hk e2.symm), Nat.add_zero]
      rw [hc]
      exact ⟨u, h1.but k (ne _ _ (h.ofb e he) (fun e => nomatch e) (fun e2 => hk (tFr_inj e2))), h2.but k (fun j hj => ne _ _ hj (fun e => nomatch e) (fun e => tFr_byt _ e.symm))⟩
  · have := h.pl
    exact Nat.le_trans List.length_erase_le this
/-- Amid the range. -/
structure DelI (w : World) (own : Owner) (gt gr gf gp gh gm : Nat) (fb : Int → Nat) (s : St) (t : Int) (r : Nat) (wr : World) (PL lf : List (Int × Int)) : Prop where
  fm : Fm wr own gt gr gf gp gh gm fb PL { s with pins := PL }
  rg : Ranged 96 wr r gp pinV (fun _ => unitV) PL lf
  nd : lf.Nodup
  dn : ∀ x ∈ PL, x ∉ lf → x.1 ≠ t
  sub : ∀ x ∈ PL, x ∈ s.pins
  kp : ∀ x ∈ s.pins, x.1 ≠ t → x ∈ PL
  but : But (Wr own) w wr
theorem exec_entryF {w : World} {o : Oper} {ρ : Operand → Value} {x : Operand} {u r : Value} (ho : o.op = .entry x) (hx : ρ x = u) (h : (Instr.entry u).run Try.prog w = .ok r w) : (execOp ρ o).run Try.prog w = .ok (.value r) w := exec_entry ho hx h
set_option maxRecDepth 100000 in
set_option maxHeartbeats 4000000 in
theorem delf_any (h : Fm w own gt gr gf gp gh gm fb PL s) {t : Int} {b2 b3 : Nat} (h2 : Blk w b2 25 [ptr gt]) (h3 : Blk w b3 3 [.int .i64 t]) (o2 : own b2 = .none) (o3 : own b3 = .none) :
    Calls Try.prog 50 #[.map (some gp), .func (.func 51) #[] #[ptr b3, ptr b2]] w fun e w' => e = .returned (.tuple #[]) ∧ (∃ PL', Fm w' own gt gr gf gp gh gm fb PL' { s with pins := s.pins.filter (fun p => !(p.1 == t)) }) ∧ But (Wr own) w w' := by
  have HPLS := Hid.mk' h.pl
  have hpn : (PL.map pinV).Nodup := nodup_map (fun _ _ _ _ e => pinV_inj e) h.pnd
  obtain ⟨w2, hrg, hg2, hsz2, hR2⟩ := h.pin.range (t := 83) (et := 97) Try.underlying83 hpn
  obtain ⟨r, hr⟩ : ∃ r, r = w.heap.size := ⟨_, rfl⟩
  rw [← hr] at hrg hR2
  have HRN : Hid (own r = .none) := h.top r (by omega)
  have HRW := Hid.mk' hr
  have HRG := Hid.mk' hrg
  have HPL0 : PL.length ≤ 100000 := Nat.le_trans (nodup_len h.pnd (fun x hx => (h.pmem x).1 hx)) h.pl
  have HST : Hid (DelI w own gt gr gf gp gh gm fb s t r w2 PL PL) := ⟨(h.grow hg2).pinsAs (fun _ => Iff.rfl) HPL0, hR2, h.pnd, fun x hx hn => absurd hx hn, fun x hx => (h.pmem x).1 hx, fun x hx _ => (h.pmem x).2 hx, hg2.mono (fun _ _ h => h.elim)⟩
  have H2 := Hid.mk' h2
  have H3 := Hid.mk' h3
  have O2 := Hid.mk' o2
  have O3 := Hid.mk' o3
  have HTOP := Hid.mk' h.top
  clear h hpn hrg hg2 hsz2 hR2 hr HPL0 h2 h3 o2 o3
  go_enter Try.func50, Try.ntmps50
  go_wp2_with (first
    | (refine wpList_runH rfl (exec_range rfl rfl HRG.out) ?_)
    | fail)
  refine act_down (fun K hK => ?_)
  go_simp
  refine hK _ ?_
  clear hK K
  go_loopw [4, 5] (fun _ _ wr => ∃ PLc lf, DelI w own gt gr gf gp gh gm fb s t r wr PLc lf) (fun _ _ wr => leftN wr r gp)
  case atStart => exact ⟨PL, PL, HST.out⟩
  case round =>
    clear HST HRG
    obtain ⟨PLc, lf, hI⟩ := hrel
    have HI := Hid.mk' hI
    rcases hI.rg.next 0 with ⟨rfl, hnx⟩ | ⟨x, lf', w3, hx, hperm, hnx, hb3, hsz3, hR3, hent⟩
    · have HNX := Hid.mk' hnx
      have HFIN : Hid ((∃ PL', Fm wr own gt gr gf gp gh gm fb PL' { s with pins := s.pins.filter (fun p => !(p.1 == t)) }) ∧ But (Wr own) w wr) := by
        refine ⟨⟨PLc, hI.fm.pinsAs (fun x => ?_) ?_⟩, hI.but⟩
        · rw [List.mem_filter]
          constructor
          · intro hx
            exact ⟨hI.sub x hx, by have := hI.dn x hx List.not_mem_nil; simpa using this⟩
          · rintro ⟨h1, h2⟩
            exact hI.kp x h1 (by simpa using h2)
        · exact Nat.le_trans (List.length_filter_le _ _) HPLS.out
      clear hnx hI
      go_wp2_with (first
        | (refine wpList_runH rfl (exec_next rfl rfl rfl HNX.out) ?_)
        | fail)
      go_end0
      exact ⟨rfl, HFIN.out⟩
    · obtain ⟨a, b⟩ := x
      have HNX := Hid.mk' hnx
      have HENT := Hid.mk' hent
      obtain ⟨q, hq⟩ : ∃ q, q = w3.heap.size := ⟨_, rfl⟩
      have HQ := Hid.mk' hq
      obtain ⟨w5, hw5⟩ : ∃ w5, w5 = (w3.alloc (.cells #[.int .i64 0, .int .i64 0] 96)).alloc (.cells #[] 97) := ⟨_, rfl⟩
      have HW5 := Hid.mk' hw5
      have HG5 : Hid (Grow w3 w5) := by rw [hw5]; exact ((But.refl _ w3).alloc _).alloc _
      have HB5 : Hid (Blk w5 q 96 [.int .i64 0, .int .i64 0]) := by rw [hw5]; exact (Blk.new (L := [.int .i64 0, .int .i64 0]) hq.symm).but ((But.refl (fun _ => False) _).alloc _) (fun h => h)
      -- the state behind the next one
      have hrq : r < q := by have := hI.rg.lt.1; omega
      have hwq : w.heap.size ≤ q := by have := hI.but.size; omega
      have hqn : own q = .none := HTOP.out q hwq
      have h3I : Fm w3 own gt gr gf gp gh gm fb PLc { s with pins := PLc } := hI.fm.but hb3 (fun c hc e => hc (by rw [e]; exact HRN.out))
      have HI3 := Hid.mk' h3I
      have HR3 := Hid.mk' hR3
      have HB3 : Hid (But (Wr own) w w3) := hI.but.then hb3 (fun i hi e => by have := HRW.out; omega)
      have HX := Hid.mk' hx
      have HP := Hid.mk' hperm
      have HQN := Hid.mk' hqn
      have HWQ := Hid.mk' hwq
      have hnd2 : ((a, b) :: lf').Nodup := hperm.nodup_iff.1 hI.nd
      have HND := Hid.mk' (List.nodup_cons.1 hnd2)
      have HLT : Hid (leftN w3 r gp < leftN wr r gp) := by
        show _ < _
        rw [hR3.left, hI.rg.left, hperm.length_eq]
        simp
      clear hnx hent hq hw5 hrq hwq hqn h3I hR3 hI hb3 hx hperm hnd2 hsz3
      go_wp2_with (first
        | (refine wpList_runH rfl (exec_next rfl rfl rfl HNX.out) ?_)
        | (refine wpList_runH rfl (exec_entry rfl rfl HENT.out) ?_)
        | (refine wpList_store_at rfl _ _ _ rfl q 0 [.int .i64 a, .int .i64 b] (by rw [HQ.out]; rfl) rfl 96 [] [.int .i64 0, .int .i64 0] [] (by rw [← HW5.out]; simpa using HB5.out) rfl rfl iPin (by intro v hv; rcases List.mem_cons.1 hv with rfl | hv; rfl; rcases List.mem_cons.1 hv with rfl | hv; rfl; cases hv) ?_; intro w6 hb6 hbut6; rw [List.nil_append, List.append_nil] at hb6; rw [← HW5.out] at hbut6)
        | (refine wpList_skipH rfl (exec_store0 iUnit rfl rfl rfl) ?_)
        | (refine wpList_load_cells rfl _ _ rfl ⟨q, 0, none⟩ (by rw [HQ.out]; rfl) [.int .i64 a, .int .i64 b] _ hb6.cells0 Try.underlying96 rfl iPin ?_)
        | (refine wpList_runH rfl (exec_ldF (cs := []) Try.underlying97 rfl iUnit (fun j u hj => by simp at hj) rfl rfl) ?_)
        | fail)
      have hG6 : Grow w3 w6 := HG5.out.then hbut6 (fun i hi e => by have := HQ.out; omega)
      have HF6 := Hid.mk' (HI3.out.grow hG6)
      have HR6 := Hid.mk' (HR3.out.grow hG6)
      have HB6 := Hid.mk' hb6
      have HBT6 : Hid (But (Wr own) w w6) := HB3.out.trans (hG6.mono (fun _ _ h => h.elim))
      have H26 : Hid (Blk w6 b2 25 [ptr gt]) := H2.out.but HBT6.out (fun e => e.1 O2.out)
      have H36 : Hid (Blk w6 b3 3 [.int .i64 t]) := H3.out.but HBT6.out (fun e => e.1 O3.out)
      have HL3 := Hid.mk' HR3.out.left
      have HLw : Hid (lf'.length < leftN wr r gp) := by have := HLT.out; rw [HL3.out] at this; exact this
      clear hb6 hbut6 hG6 HI3 HR3 HB3 HG5 HB5 HW5
      by_cases hat : a = t
      · obtain ⟨-, hib, hhas⟩ := HF6.out.ok.pk (a, b) HX.out
        obtain ⟨hia, -⟩ := HF6.out.ok.pk (a, b) HX.out
        obtain ⟨e0, he0, hek⟩ := St.has_iff.1 hhas
        obtain ⟨v, hb0, hv0⟩ := HF6.out.each e0 he0
        simp only at hek hib hia
        have hcn : cnt PLc b = cnt (PLc.erase (a, b)) b + 1 := by
          rw [cnt_perm (List.perm_cons_erase HX.out) b, cnt_cons, if_pos rfl]
        rw [hek, hcn] at hb0
        have hcl : cnt (PLc.erase (a, b)) b ≤ 100000 := by have := HF6.out.cl b; omega
        have HM := Hid.mk' (mine_any (p := (a, b)) (w := w6) (s := { s with pins := PLc }) hat H26.out H36.out HF6.out.blk (fun w1 k => (HF6.out.grow k).looks hib |>.1 hhas) hb0 hcl)
        have hqf : ¬ (q = fb b) := fun e => by
          have h1 := HF6.out.ofb e0 he0
          rw [hek, ← e, HQN.out] at h1; cases h1
        have hgpf : ¬ (gp = fb b) := fun e => by
          have h1 := HF6.out.ofb e0 he0
          rw [hek, ← e, HF6.out.ogp] at h1; cases h1
        have hrf : ¬ (r = fb b) := fun e => by
          have h1 := HF6.out.ofb e0 he0
          rw [hek, ← e, HRN.out] at h1; cases h1
        have HQF := Hid.mk' hqf
        obtain ⟨l, hl⟩ := keyOfPin (p := (a, b)) hia hib
        have HNEXT : Hid (∀ w7, Blk w7 (fb b) 89 (fcl v e0.2.2 (cnt (PLc.erase (a, b)) b)) → But (· = fb b) w6 w7 → ∃ w8, (Builtin.delete_ #[83, 96] 0 #[.map (some gp), pinV (a, b)]).run Try.prog w7 = .ok (.tuple #[]) w8 ∧ DelI w own gt gr gf gp gh gm fb s t r w8 (PLc.erase (a, b)) lf' ∧ leftN w8 r gp < leftN wr r gp) := fun w7 hb7 hk7 => by
          have hR7 := HR6.out.but hk7 hrf hgpf
          obtain ⟨w8, hr8, hR8, hb8, -⟩ := hR7.del (l' := PLc.erase (a, b)) (t := 83) (et := 97) keyPin Try.underlying83 HX.out hl (fun y hy e => HND.out.1 (by rw [← pinV_inj e]; exact hy)) (fun y => by
            rw [HF6.out.pnd.mem_erase_iff]
            exact ⟨fun h => ⟨h.2, fun e => h.1 (pinV_inj e)⟩, fun h => ⟨fun e => h.2 (by rw [e]), h.1⟩⟩) 0
          have kk : But (fun c => c = gp ∨ c = fb b) w6 w8 := (hk7.mono (fun _ _ e => .inr e)).trans (hb8.mono (fun _ _ e => .inl e))
          refine ⟨w8, hr8, ⟨?_, hR8, HND.out.2, fun y hy hn => ?_, fun y hy => ?_, fun y hy hne => ?_, ?_⟩, ?_⟩
          · exact HF6.out.unpin (x := (a, b)) he0 hek kk (hb7.but hb8 (fun e => hgpf e.symm)) hv0 HX.out hR8.map
          · obtain ⟨h1, h2⟩ := HF6.out.pnd.mem_erase_iff.1 hy
            exact HI.out.dn y h2 (fun h3 => hn (by
              rcases List.mem_cons.1 (HP.out.mem_iff.1 h3) with e | e
              · exact absurd e h1
              · exact e))
          · exact HI.out.sub y (List.mem_of_mem_erase hy)
          · exact HF6.out.pnd.mem_erase_iff.2 ⟨fun e => hne (by rw [e]; exact hat), HI.out.kp y hy hne⟩
          · refine HBT6.out.trans (kk.mono (fun c _ e => ?_))
            rcases e with e | e
            · rw [e, Wr, HF6.out.ogp]; exact ⟨by decide, by decide⟩
            · rw [e, ← hek]; exact HF6.out.wrF he0
          · rw [hR8.left]; exact HLw.out
        generalize cnt (PLc.erase (a, b)) b = c at *
        generalize fb b = g at *
        clear hib hhas he0 hek hb0 hv0 hcn hcl hqf hgpf hrf hl hia hat
        refine Calls.mono HM.out ?_
        rintro e w7 ⟨rfl, hb7, hk7⟩
        obtain ⟨w8, hr8, hI8, hl8⟩ := HNEXT.out w7 hb7 hk7
        have HR8 := Hid.mk' hr8
        have HI8 := Hid.mk' hI8
        have HL8 := Hid.mk' hl8
        have HBQ := Hid.mk' (HB6.out.but hk7 HQF.out)
        clear hb7 hk7 hr8 hI8 hl8 HNEXT HM
        go_wp2_with (first
          | (refine wpList_load_cells rfl _ _ rfl ⟨q, 0, none⟩ (by rw [HQ.out]; rfl) [.int .i64 a, .int .i64 b] _ HBQ.out.cells0 Try.underlying96 rfl iPin ?_)
          | (refine wpList_runH rfl (exec_deleteH rfl rfl rfl HR8.out) ?_)
          | fail)
        go_roundw
        case rel => exact ⟨_, _, _, _, _, _, _, _, _, _, _, _, _, ⟨_, _, HI8.out⟩, rfl⟩
        case measure => exact HL8.out
      · have HM := Hid.mk' (other_any (p := (a, b)) (w := w6) (x := ptr b2) hat H36.out)
        have HNEXT : Hid (∀ w7, Grow w6 w7 → DelI w own gt gr gf gp gh gm fb s t r w7 PLc lf' ∧ leftN w7 r gp < leftN wr r gp) := fun w7 k7 => by
          have hR7 := HR6.out.grow k7
          refine ⟨⟨HF6.out.grow k7, hR7, HND.out.2, fun y hy hn => ?_, HI.out.sub, HI.out.kp, HBT6.out.trans (k7.mono (fun _ _ h => h.elim))⟩, by rw [hR7.left]; exact HLw.out⟩
          by_cases hyx : y = (a, b)
          · rw [hyx]; exact hat
          · exact HI.out.dn y hy (fun h3 => hn (by
              rcases List.mem_cons.1 (HP.out.mem_iff.1 h3) with e | e
              · exact absurd e hyx
              · exact e))
        refine Calls.mono HM.out ?_
        rintro e w7 ⟨rfl, hk7⟩
        obtain ⟨hI8, hl8⟩ := HNEXT.out w7 hk7
        have HI8 := Hid.mk' hI8
        have HL8 := Hid.mk' hl8
        clear hk7 hI8 hl8 HNEXT HM
        go_wp2
        exact ⟨⟨_, _, HI8.out⟩, HL8.out⟩
end
end Go.Proofs.Ytmlklmhochihbaa
