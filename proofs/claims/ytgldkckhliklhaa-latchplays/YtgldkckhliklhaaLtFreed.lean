/- latch: the walk of Free. -/
import Derived.Test.YtgldkckhliklhaaLtFree
namespace Go.Proofs.Ytgldkckhliklhaa
open Go.RowKit Go.Maps

section
variable {w w' wr : World} {own own' ownr : Owner} {gt gl gh gw r mb : Nat} {lb hb : Int → Nat} {KL TL : List Int} {c : Lc} {s s0 S : Ls} {R : Nat → Prop} {T : Tag} {t : Int}
set_option maxRecDepth 100000 in
set_option maxHeartbeats 8000000 in
theorem free_any (h : Lt w own gt s) (hok : Lok s) (ht : i64 t) (hsum : s.has.length + s.q.length ≤ 10000) : Calls Try.prog 12 #[ptr gt, .int .i64 t] w (FreeTo w own gt s t) := by
  have HLV := Hid.mk' (lleft_any h hok ht hsum)
  have HT := Hid.mk' ht
  have HOK := Hid.mk' hok
  have HSUM := Hid.mk' hsum
  clear h hok ht hsum
  go_enter Try.func12, Try.ntmps12
  go_wp2_with fail
  refine Calls.mono HLV.out ?_
  rintro e w1 ⟨v1, rfl, G0, s0, own0, hlv, ⟨gl, gh, gw, lb, hb, KL, TL, h1⟩, hok0, hrow, hrn, hsub, hbut⟩
  obtain ⟨-, hq0, hsum0, hgl0⟩ := hlv.facts HOK.out
  have hs0 : s0.has.length + s0.q.length ≤ 10000 := Nat.le_trans hsum0 HSUM.out
  have ham := Am.start hok0 hq0 hs0
  have c1 : w1.cell? ⟨gt, 1, none⟩ = some (.map (some gh)) := h1.blk.cell 1
  obtain ⟨w2, hr2, hh2, hb2, hz2⟩ := h1.hel.del (t := 49) (et := 53) (l' := TL.filter (fun j => !(j == t))) keyIa Try.underlying49 (keyOfIa t HT.out) (fun j => by
    rw [List.mem_filter]
    constructor
    · rintro ⟨h1, h2⟩; exact ⟨h1, fun e => by rw [iv_inj e] at h2; simp at h2⟩
    · rintro ⟨h1, h2⟩; exact ⟨h1, by have : j ≠ t := fun e => h2 (by rw [e]); simpa using this⟩) 0
  have hm2 := h1.delH t hb2 hh2 (fun j => by rw [List.mem_filter]; simp)
  obtain ⟨own2, hown2⟩ : ∃ own2, own2 = tagAt own0 (hb t) (if t ∈ TL then .none else own0 (hb t)) := ⟨_, rfl⟩
  rw [← hown2] at hm2
  have hle : ∀ b, own2 b ≠ .none → own0 b ≠ .none := fun b hb' => by
    rw [hown2] at hb'
    unfold tagAt at hb'
    by_cases e : b = hb t
    · rw [if_pos e] at hb'
      by_cases e2 : t ∈ TL
      · rw [if_pos e2] at hb'; exact absurd rfl hb'
      · rw [if_neg e2] at hb'; rw [e]; exact hb'
    · rw [if_neg e] at hb'; exact hb'
  have hno2 : ∀ b, own0 b = .none → own2 b = .none := fun b e => by
    cases h9 : own2 b with
    | none => rfl
    | _ => exact absurd e (hle b (by rw [h9]; exact fun e => nomatch e))
  have hl2 : Lth w2 own2 gt s0 (s0.has.filter (fun x => !(x.1 == t))) := ⟨_, _, _, _, _, _, _, hm2⟩
  have hgh : ∀ b, own0 b = .none → ¬ (b = gh) := fun b e e2 => by
    have := h1.oh
    rw [← e2, e] at this
    cases this
  have hrow2 := ownsRow_but hrow hb2 (fun b hb e => hgh b (hrn b hb).2 e)
  have hsub2 : Sub w own own2 := fun b hb => hsub b (hle b hb)
  have hbut2 : But (Wo own) w w2 := hbut.then hb2 (fun b hb e => by
    rw [e] at hb ⊢
    rcases hsub gh (by rw [h1.oh]; decide) with h9 | h9
    · exact h9
    · omega)
  have hiG : ∀ x ∈ G0, i64 x.1 := fun x hx => by
    rcases hlv with ⟨-, rfl, -⟩ | ⟨kk, al, -, hst, -⟩
    · cases hx
    · exact (HOK.out.iq x (List.mem_filter.1 ((steps_q hst).2 x hx)).1).1
  have hGl : G0.length + s0.q.length ≤ 10000 := by have := HSUM.out; omega
  by_cases htl : t ∈ TL
  · have HLK := Hid.mk' ((h1.lookH HT.out).1 htl)
    have hog : own0 (hb t) = tH t := h1.ohb t htl
    have hmm := (h1.mps t htl).but hb2 (fun e => by rw [e, h1.oh] at hog; cases hog)
    have hnd : ((s0.has.filter (fun x => x.1 == t)).map (fun x : Wt => iv x.2.1)).Nodup := nodup_map (fun x hx y hy e => by
      obtain ⟨a1, a2⟩ := List.mem_filter.1 hx
      obtain ⟨b1, b2⟩ := List.mem_filter.1 hy
      exact hok0.hone b1 a1 (by rw [show x.1 = t by simpa using a2, show y.1 = t by simpa using b2]) (iv_inj e)) ham.nd
    obtain ⟨w3, hrg, hg3, hz3, hR3⟩ := hmm.range (t := 53) (et := 3) Try.underlying53 hnd
    obtain ⟨r, hr⟩ : ∃ r, r = w2.heap.size := ⟨_, rfl⟩
    obtain ⟨mb, hmb⟩ : ∃ mb, mb = hb t := ⟨_, rfl⟩
    rw [← hmb] at HLK hrg hR3
    rw [← hr] at hrg hR3
    have hmb2 : own2 mb = .none := by
      rw [hown2, hmb]
      unfold tagAt
      rw [if_pos rfl, if_pos htl]
    have HST : Hid (FrI w own gt s t r mb G0 s0 w3 v1 [] [] (s0.has.filter (fun x => !(x.1 == t))) (s0.has.filter (fun x => x.1 == t)) s0 own2) := by
      refine ⟨hlv, ham, .nil, List.Perm.refl _, hl2.but hg3 (fun _ _ h => h), hR3, ?_, fun b hb => ?_, ?_, ?_, ?_, hmb2, ?_, hsub2, hbut2.trans (hg3.mono (fun _ _ h => h.elim))⟩
      · rw [List.append_nil]; exact ownsRow_grow hrow2 hg3
      · refine ⟨(hrn b hb).1, hno2 b (hrn b hb).2, ?_, fun e => ?_⟩
        · have := (hrow2.lt b hb).2; omega
        · have h9 := (hrn b hb).2
          rw [e, hmb, hog] at h9
          cases h9
      · rw [List.append_nil]; exact hiG
      · rw [List.append_nil]; exact hGl
      · exact hm2.top r (by omega)
      · have := hbut2.size; omega
    have HR2 := Hid.mk' hr2
    have HRG := Hid.mk' hrg
    clear h1 hok0 hlv hq0 hsum0 hgl0 hs0 ham hr2 hh2 hb2 hz2 hm2 hown2 hle hno2 hl2 hgh hrow2 hrow hrn hsub hbut hsub2 hbut2 hiG hGl htl hog hmm hnd hrg hg3 hz3 hR3 hr hmb hmb2
    go_wp2_with (first
      | (refine wpList_runH rfl (exec_lookup rfl rfl rfl HLK.out) ?_)
      | (refine wpList_runH rfl (exec_delete rfl rfl rfl HR2.out) ?_)
      | (refine wpList_runH rfl (exec_range rfl rfl HRG.out) ?_)
      | fail)
    refine act_down (fun K hK => ?_)
    go_simp
    refine hK _ ?_
    clear hK K
    go_loopw [5, 7, 8] (fun rv _ _ wr => ∃ (rv0 : Value) (E G H lf : List Wt) (S : Ls) (ownr : Owner), rv0 = rv ∧ FrI w own gt s t r mb G0 s0 wr rv0 E G H lf S ownr) (fun _ _ _ wr => leftN wr r mb)
    case atStart => exact ⟨_, _, _, _, _, _, _, rfl, HST.out⟩
    case round =>
      clear HST HRG HR2 HLK c1
      obtain ⟨rv, E, G, H, lf, S, ownr, rfl, hI⟩ := hrel
      have HI := Hid.mk' hI
      rcases hI.rg.next 0 with ⟨rfl, hnx⟩ | ⟨⟨tx, k, al⟩, lf', w3, hx, hperm, hnx, hb3, hsz3, hR3, hent⟩
      · have HNX := Hid.mk' hnx
        have HSO := Hid.mk' (free_done (w := w) (own := own) hI.lv hI.dr (by have := hI.pm; rwa [List.append_nil] at this) hI.am hI.lt hI.rw hI.ir (by have := hI.nr; omega) (fun b hb => ⟨(hI.rn b hb).1, (hI.rn b hb).2.1⟩) hI.sub hI.but)
        clear hnx hI
        go_wp2_with (first
          | (refine wpList_runH rfl (exec_next rfl rfl rfl HNX.out) ?_)
          | fail)
        refine Calls.mono HSO.out ?_
        rintro e w' ⟨rfl, hfin⟩
        have HFIN := Hid.mk' hfin
        clear hfin HSO
        go_wp2
        go_ret
        exact HFIN.out
      · have htx : t = tx := (hI.am.nl _ (hperm.mem_iff.2 List.mem_cons_self)).symm
        subst htx
        obtain ⟨amd, hxS⟩ := (hI.am.perm hperm).drop
        obtain ⟨gl, gh, gw, lb, hb, KL, TL, hm3⟩ := hI.lt.but hb3 (fun b hb e => hb (by rw [e]; exact hI.or'))
        have hki : i64 k := (hI.am.ok.ih _ hxS).2
        have hkl : k ∈ KL := hm3.nok _ (.inl hxS)
        have HL := Hid.mk' ((hm3.lookL hki).1 hkl)
        have c0 : w3.cell? ⟨gt, 0, none⟩ = some (.map (some gl)) := hm3.blk.cell 0
        have hdr := ldrop_any hm3 hI.am.ok hxS
        obtain ⟨md, hmd⟩ : ∃ md, md = mode (t, k, al) := ⟨_, rfl⟩
        have hnx' : (Instr.next (.pointer (some ⟨r, 0, none⟩)) false 0).run Try.prog wr = .ok (.tuple #[.bool true, .int .i64 k, .int .i64 md]) w3 := by rw [hmd]; exact hnx
        have hent' : (Instr.entry (.pointer (some ⟨r, 0, none⟩))).run Try.prog w3 = .ok (.tuple #[.int .i64 k, .int .i64 md]) w3 := by rw [hmd]; exact hent
        rw [← hmd] at hdr
        have HDR := Hid.mk' hdr
        have HNX := Hid.mk' hnx'
        have HENT := Hid.mk' hent'
        have HAMD := Hid.mk' amd
        have HKI := Hid.mk' hki
        have HKL := Hid.mk' hkl
        have HP := Hid.mk' hperm
        have HB3 := Hid.mk' hb3
        have HR3 := Hid.mk' hR3
        have HLEFT : Hid (lf'.length < leftN wr r mb) := by
          show _ < _
          rw [hI.rg.left, hperm.length_eq]
          simp
        clear hI hx hperm hnx hb3 hsz3 hR3 hent amd hxS hm3 hki hkl hdr hnx' hent' hmd
        go_wp2_with (first
          | (refine wpList_runH rfl (exec_next rfl rfl rfl HNX.out) ?_)
          | (refine wpList_runH rfl (exec_entry rfl rfl HENT.out) ?_)
          | (refine wpList_runH rfl (exec_lookup rfl rfl rfl HL.out) ?_)
          | fail)
        refine Calls.mono HDR.out ?_
        rintro e w4 ⟨rfl, hm4, hb4⟩
        have HSE := Hid.mk' (lsettle_h hm4 (fun y hy => (HAMD.out.mem y).2 (.inl hy)) HAMD.out.ok HKI.out HKL.out HAMD.out.sum)
        have HB4 := Hid.mk' hb4
        clear hm4 hb4 HDR c0 HL HENT HNX
        go_wp2_with fail
        refine Calls.mono HSE.out ?_
        rintro e w5 ⟨v5, rfl, G1, S1, own5, hst, hsb, hl5, -, hrow5, -, hs5, hb5⟩
        have k5 : But (fun b => b = r ∨ Wo ownr b) wr w5 := (HB3.out.mono (fun b _ e => .inl e)).trans ((HB4.out.trans hb5).mono (fun b _ e => .inr e))
        have HRW5 := Hid.mk' (ownsRow_but HI.out.rw k5 (fun b hb e => by
          rcases e with e | e
          · exact (HI.out.rn b hb).2.2.1 e
          · exact e (HI.out.rn b hb).2.1))
        have HN5 : Hid (Nums w5 v5 (G1.map (·.1))) := Nums.ofRow (by rw [List.length_map]; exact hrow5) (fun x hx => by
          obtain ⟨y, hy, rfl⟩ := List.mem_map.1 hx
          exact (HAMD.out.ok.iq y ((steps_q hst).2 y hy)).1) (by
          have h1 := (steps_sum hst).2
          have h2 := HAMD.out.sum
          rw [List.length_map]
          omega)
        have HNN : Hid ((G0 ++ G).length + (G1.map (·.1)).length ≤ 1000000) := by
          show _ ≤ _
          have h1 := (steps_sum hst).2
          have h2 := HAMD.out.sum
          have h3 := HI.out.nr
          rw [List.length_map]
          omega
        have HS1 : Hid (∀ v7 w7, Appd w5 w7 3 1 rv v7 ((G0 ++ G).length + (G1.map (·.1)).length) (numv ((G0 ++ G).map (·.1)) ++ numv (G1.map (·.1))) → FrI w own gt s t r mb G0 s0 w7 v7 (E ++ [(t, k, al)]) (G ++ G1) (H ++ G1) lf' S1 own5) := fun v7 w7 hap => HI.out.step HP.out HB3.out HR3.out HB4.out hst hsb hl5 hs5 hb5 hap
        clear hst hsb hl5 hrow5 hs5 hb5 k5 HSE
        go_wp2_with (first
          | (refine wpList_someH rfl (exec_appendN (v := rv) (u := v5) (n := (G0 ++ G).length) (xs := numv ((G0 ++ G).map (·.1))) (ks := G1.map (·.1)) rfl rfl HRW5.out rfl HN5.out HNN.out) ?_; intro v7 w7 hap)
          | fail)
        have hap' : Appd w5 w7 3 1 rv v7 ((G0 ++ G).length + (G1.map (·.1)).length) (numv ((G0 ++ G).map (·.1)) ++ numv (G1.map (·.1))) := hap
        have hI7 := HS1.out v7 w7 hap'
        refine ⟨⟨_, _, _, _, _, _, _, rfl, hI7⟩, ?_⟩
        show leftN w7 r mb < leftN wr r mb
        rw [hI7.rg.left]
        exact HLEFT.out
  · have HLK := Hid.mk' ((h1.lookH HT.out).2 htl)
    have hE : s0.has.filter (fun x => x.1 == t) = [] := List.filter_eq_nil_iff.2 (fun x hx e => htl (by rw [← show x.1 = t by simpa using e]; exact h1.nom x hx))
    have hg3 : Grow w2 (w2.alloc (.mapIter none 0 #[] 0)) := (But.refl _ w2).alloc _
    have hnx := next_nil (w := w2.alloc (.mapIter none 0 #[] 0)) (g := w2.heap.size) (by first | exact Array.getElem?_push_size | (show (w2.heap.push _)[w2.heap.size]? = some _; simp)) 0
    rw [hE] at ham
    have hso := free_done (w := w) (own := own) (G := []) (E := []) hlv .nil (by rw [hE]) ham (hl2.but hg3 (fun _ _ h => h)) (rv := v1) (by rw [List.append_nil]; exact ownsRow_grow hrow2 hg3) (by rw [List.append_nil]; exact hiG) (by rw [List.append_nil]; omega) (fun b hb => ⟨(hrn b hb).1, hno2 b (hrn b hb).2⟩) hsub2 (hbut2.trans (hg3.mono (fun _ _ h => h.elim)))
    have HSO := Hid.mk' hso
    have HNX := Hid.mk' hnx
    have HR2 := Hid.mk' hr2
    have HRG := Hid.mk' (range_nil w2)
    clear h1 hok0 hlv hq0 hsum0 hgl0 hs0 ham hr2 hh2 hb2 hz2 hm2 hown2 hle hno2 hl2 hgh hrow2 hrow hrn hsub hbut hsub2 hbut2 hiG hGl htl hE hg3 hnx hso
    go_wp2_with (first
      | (refine wpList_runH rfl (exec_lookup rfl rfl rfl HLK.out) ?_)
      | (refine wpList_runH rfl (exec_delete rfl rfl rfl HR2.out) ?_)
      | (refine wpList_runH rfl (exec_range rfl rfl HRG.out) ?_)
      | fail)
    refine act_down (fun K hK => ?_)
    go_simp
    refine hK _ ?_
    clear hK K
    go_loopw [5, 7, 8] (fun rv _ _ wr => rv = v1 ∧ wr = w2.alloc (.mapIter none 0 #[] 0)) (fun _ _ _ wr => 0)
    case atStart => exact ⟨rfl, rfl⟩
    case round =>
      obtain ⟨rfl, rfl⟩ := hrel
      go_wp2_with (first
        | (refine wpList_runH rfl (exec_next rfl rfl rfl HNX.out) ?_)
        | fail)
      refine Calls.mono HSO.out ?_
      rintro e w' ⟨rfl, hfin⟩
      have HFIN := Hid.mk' hfin
      clear hfin HSO
      go_wp2
      go_ret
      exact HFIN.out
end
end Go.Proofs.Ytgldkckhliklhaa
