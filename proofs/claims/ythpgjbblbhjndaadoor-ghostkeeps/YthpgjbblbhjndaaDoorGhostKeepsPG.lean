/- GhostKeeps: the walk. -/
import Derived.Test.YthpgjbblbhjndaaDoorGhostClashesPG
namespace Go.Proofs.YthpgjbblbhjndaaDoor
open Go.RowKit

theorem grow_cell {w w' : World} (h : Grow w w') {b i : Nat} {u : Value} (hc : w.cell? ⟨b, i, none⟩ = some u) : w'.cell? ⟨b, i, none⟩ = some u := by
  rcases Nat.lt_or_ge b w.heap.size with hb | hb
  · exact (World.cell?_of_block (h.block b hb (fun h => h))).trans hc
  · exfalso
    have h1 : w.heap[b]? = none := by simpa using hb
    simp [World.cell?, h1] at hc
/-- A row of rows: the i-th one and those behind it are still what they were. -/
structure KRow (w : World) (base : Nat) (v : Value) (L M : List BE) (i : Nat) : Prop where
  row : NewRow w base v M
  same : M.map (·.1) = L.map (·.1)
  lens : M.map (fun e => e.2.length) = L.map (fun e => e.2.length)
  rest : ∀ k, i ≤ k → M[k]? = L[k]?
theorem KRow.but {R : Nat → Prop} {w w' : World} {base : Nat} {v : Value} {L M : List BE} {i : Nat} (h : KRow w base v L M i) (k : But R w w') (hr : ∀ j, base ≤ j → j < w.heap.size → ¬ R j) : KRow w' base v L M i :=
  ⟨h.row.but k hr, h.same, h.lens, h.rest⟩
theorem KRow.next {w : World} {base : Nat} {v : Value} {L M : List BE} {i : Nat} (h : KRow w base v L M i) : KRow w base v L M (i + 1) :=
  ⟨h.row, h.same, h.lens, fun k hk => h.rest k (by omega)⟩
theorem KRow.len {w : World} {base : Nat} {v : Value} {L M : List BE} {i : Nat} (h : KRow w base v L M i) : M.length = L.length := by
  have := congrArg List.length h.same
  simpa using this
/-- The elements of a row lie apart. -/
theorem NewRow.apart {w : World} {base : Nat} {v : Value} {M : List BE} (h : NewRow w base v M) {i j : Nat} {e f : BE} (hi : M[i]? = some e) (hj : M[j]? = some f) (hn : i ≠ j) : ∀ k, f.1.ownBlock = some k → e.1.ownBlock ≠ some k := by
  obtain ⟨h1, rfl⟩ := List.getElem?_eq_some_iff.1 hi
  obtain ⟨h2, rfl⟩ := List.getElem?_eq_some_iff.1 hj
  intro k hk
  rcases Nat.lt_or_ge i j with h3 | h3
  · exact fun e => List.pairwise_iff_getElem.1 h.dif i j h1 h2 h3 k e hk
  · exact List.pairwise_iff_getElem.1 h.dif j i h2 h1 (by omega) k hk
theorem set_map {α β : Type} (f : α → β) (M : List α) (i : Nat) (e x : α) (h : M[i]? = some e) (hx : f x = f e) : (M.set i x).map f = M.map f := by
  obtain ⟨h1, rfl⟩ := List.getElem?_eq_some_iff.1 h
  rw [List.map_set, hx]
  apply List.ext_getElem?
  intro k
  by_cases hk : i = k
  · subst hk; simp [h1]
  · simp [List.getElem?_set_ne hk]
/-- One element written into. -/
theorem KRow.set {w w' : World} {base : Nat} {v : Value} {L M : List BE} {i : Nat} {e : BE} {zs : List Nat} (h : KRow w base v L M (i + 1)) (he : M[i]? = some e) (hz : zs.length = e.2.length) (ho : Ow w' base e.1 zs) (k : But (fun b => e.1.ownBlock = some b) w w') : KRow w' base v L (M.set i (e.1, zs)) (i + 1) := by
  have hm : (M.set i (e.1, zs)).map (·.1) = M.map (·.1) := set_map _ _ _ e _ he rfl
  have hmem : e ∈ M := List.mem_of_getElem? he
  refine ⟨⟨?_, fun f hf => ?_, ?_, fun f hf => ?_⟩, hm.trans h.same, (set_map _ _ _ e _ he hz).trans h.lens, fun q hq => ?_⟩
  · rw [hm, List.length_set]
    exact ownsRow_but h.row.own k (fun j hj hh => h.row.row e hmem j hj hh)
  · obtain ⟨q, hq⟩ := List.getElem?_of_mem hf
    by_cases hqi : i = q
    · subst hqi
      have : i < M.length := (List.getElem?_eq_some_iff.1 he).1
      simp [this] at hq
      rw [← hq]; exact ho
    · rw [List.getElem?_set_ne hqi] at hq
      exact (h.row.el f (List.mem_of_getElem? hq)).but k (fun j hj _ hh => h.row.apart he hq hqi j hj hh)
  · have h1 := h.row.dif
    rw [← List.pairwise_map (f := fun x : BE => x.1) (R := fun a b => ∀ k, a.ownBlock = some k → b.ownBlock ≠ some k)] at h1 ⊢
    rw [hm]; exact h1
  · have h1 : f.1 ∈ (M.set i (e.1, zs)).map (·.1) := List.mem_map.2 ⟨f, hf, rfl⟩
    rw [hm] at h1
    obtain ⟨f', hf', e2⟩ := List.mem_map.1 h1
    rw [← e2]; exact h.row.row f' hf'
  · rw [List.getElem?_set_ne (by omega)]; exact h.rest q hq
theorem KRow.at {w : World} {base : Nat} {v : Value} {L M : List BE} {i j : Nat} {e : BE} (h : KRow w base v L M i) (hj : L[j]? = some e) : ∃ zs, M[j]? = some (e.1, zs) ∧ zs.length = e.2.length := by
  have h1 : (M.map (·.1))[j]? = some e.1 := by rw [h.same]; simp [hj]
  have h2 : (M.map (fun e => e.2.length))[j]? = some e.2.length := by rw [h.lens]; simp [hj]
  rw [List.getElem?_map] at h1 h2
  obtain ⟨f, hf, hf1⟩ := Option.map_eq_some_iff.1 h1
  rw [hf] at h2
  simp only [Option.map_some, Option.some.injEq] at h2
  obtain ⟨f1, f2⟩ := f
  simp only at hf1 h2
  subst hf1
  exact ⟨f2, hf, h2⟩
/-- The row's own cell. -/
theorem NewRow.cell {w : World} {base g n cap : Nat} {M : List BE} (h : NewRow w base (.slice (some ⟨g, 0, none⟩) n cap) M) {i : Nat} {e : BE} (he : M[i]? = some e) : w.cell? ⟨g, i, none⟩ = some e.1 := by
  have h1 : i < M.length := (List.getElem?_eq_some_iff.1 he).1
  have hn : n = M.length := by
    obtain ⟨-, ⟨e1, -⟩ | ⟨g', cap', cur, e1, -⟩⟩ := h.own
    · cases e1
    · simp only [Value.slice.injEq] at e1; exact e1.2.1
  have ho := h.own
  rw [hn] at ho
  rw [ho.cellAt i (by omega)]
  simp [he]
set_option maxRecDepth 100000 in
set_option maxHeartbeats 4000000 in
theorem ghostKeeps_walk (v0 : Value) (n : Nat) (A : Nat → GA) (w : World) (hk : Kw w) (hh : Hw w) (h0 : GActs w v0 n A) :
    Calls Tryd.prog 6 #[v0] w fun e w' => e = .returned (.bool true) ∧ Below w.heap.size w w' := by
  have HGR := Hid.mk' (great_any h0)
  have HPY : Hid ((∀ i, i < n → i < 300 → GSmall (A i)) → ∀ w1, Grow w w1 → Calls Tryd.prog 11 #[v0] w1 (PlayTo w1)) := fun hs w1 hg => played_any (hk.but hg (fun h => h)) (hh.but hg (fun h => h)) (h0.but hg) hs
  obtain ⟨Z, hZ⟩ : ∃ Z, Z = zeroT := ⟨_, rfl⟩
  have hz := zT
  rw [← hZ] at hz
  have HZL : Hid (Z.length = 15) := by show _ = _; rw [hZ]; rfl
  clear h0 hk hh hZ
  go_enter Tryd.func6, Tryd.ntmps6
  go_wp2_with fail
  refine Calls.mono HGR.out ?_
  rintro e w1 ⟨bb, rfl, hb1⟩
  have HG1 := Hid.mk' hb1.grow
  cases bb with
  | true =>
    clear hb1 HGR HPY
    go_wp2_with fail
    refine Calls.mono (awake_any w1) ?_
    rintro e w2 ⟨rfl, hg2⟩
    go_wp2
    go_ret
    exact ⟨rfl, (HG1.out.trans hg2).below (Nat.le_refl _) (fun _ _ h => h)⟩
  | false =>
    have HPL := Hid.mk' (HPY.out (hb1.small rfl) w1 hb1.grow)
    clear hb1 HGR HPY
    go_wp2_with fail
    refine Calls.mono HPL.out ?_
    rintro e w2 ⟨gl, gx, rfl, hpl⟩
    obtain ⟨own, ro, vp, vs, vo, LP, LS, LO, hT, ⟨hlenP, hlenS, hlenO⟩, -, hsS, hsO⟩ := hpl.ex
    obtain ⟨ap, cp, rfl, -⟩ := hT.ref.prs.at (But.refl _ w2)
    obtain ⟨aS, cs, rfl, -⟩ := hT.ref.sea.at (But.refl _ w2)
    obtain ⟨ao, co, rfl, -⟩ := hT.ref.ope.at (But.refl _ w2)
    obtain ⟨np, hnp⟩ : ∃ m, m = LP.length := ⟨_, rfl⟩
    obtain ⟨ns, hns⟩ : ∃ m, m = LS.length := ⟨_, rfl⟩
    obtain ⟨no, hno⟩ : ∃ m, m = LO.length := ⟨_, rfl⟩
    have HT := Hid.mk' hT
    rw [← hnp, ← hns, ← hno] at HT
    have HNP : Hid ((LP.map (fun e : PE => e.1)).length = np ∧ (LS.map (fun e : TE => e.1)).length = ns ∧ (LO.map (fun e : TE => e.1)).length = no) := by
      show _ ∧ _; simp [hnp, hns, hno]
    have HSS := Hid.mk' hsS
    have HSO := Hid.mk' hsO
    have HLEN : Hid (LP.length ≤ 300 ∧ LS.length ≤ 300 ∧ LO.length ≤ 300) := ⟨hlenP, hlenS, hlenO⟩
    have HNS := Hid.mk' hns
    have hnsb : (ns : Int) ≤ 300 := by omega
    clear hpl hT hsS hsO hlenP hlenS hlenO HPL hnp hns hno
    go_wp2
    go_loopw [6] (fun iv wr => ∃ t : Nat, t ≤ 2 ∧ iv = .int .i64 t ∧ Two w1 wr own ro gl gx (LP.map (fun e : PE => e.1)) (LS.map (fun e : TE => e.1)) (LO.map (fun e : TE => e.1)) (.slice ap np cp) (.slice aS ns cs) (.slice ao no co) LP LS LO) (fun iv _ => 2 - (intOf iv).toNat)
    case atStart => exact ⟨0, by omega, rfl, HT.out⟩
    case round =>
      clear HT
      obtain ⟨t, ht, rfl, hT⟩ := hrel
      by_cases htl : t < 2
      · have htl' : (t : Int) < 2 := by omega
        have HCO := Hid.mk' (count_any hT.log.lg)
        rw [HNP.out.1, HNP.out.2.1, HNP.out.2.2] at HCO
        have HT := Hid.mk' hT
        clear hT
        go_wp2_with fail
        refine Calls.mono HCO.out ?_
        rintro e w3 ⟨rfl, hg3⟩
        have HT3 := Hid.mk' (HT.out.then hg3)
        have HBL := Hid.mk' (blocks_any HT3.out.log.lg (fun p hp => by
          obtain ⟨e, he, rfl⟩ := List.mem_map.1 hp
          have := HSS.out e he; omega) (by rw [List.length_map]; have := HLEN.out; omega))
        clear hg3 HCO HT
        go_wp2_with fail
        refine Calls.mono HBL.out ?_
        rintro e w4 ⟨hg4, vb, L, rfl, hnr, hmap⟩
        have hLl : L.length = ns := by
          have := congrArg List.length hmap
          rw [List.length_map, List.length_map, HNP.out.2.1] at this
          exact this
        obtain ⟨ab, cb, hvb⟩ : ∃ ab cb, vb = .slice ab ns cb := by
          obtain ⟨-, ⟨e1, e2⟩ | ⟨g, cap, cur, e1, -⟩⟩ := hnr.own
          · exact ⟨none, 0, by rw [e1, ← hLl, e2]⟩
          · exact ⟨_, _, by rw [e1, hLl]⟩
        subst hvb
        have HAB : Hid (0 < ns → ∃ g, ab = some ⟨g, 0, none⟩) := fun h0 => by
          obtain ⟨-, ⟨e1, e2⟩ | ⟨g, cap, cur, e1, -⟩⟩ := hnr.own
          · omega
          · simp only [Value.slice.injEq] at e1; exact ⟨g, e1.1⟩
        have HT4 := Hid.mk' (HT3.out.then hg4)
        have HLL := Hid.mk' hLl
        have HMAP := Hid.mk' hmap
        have HK0 : Hid (KRow w4 w3.heap.size (.slice ab ns cb) L L 0) := ⟨hnr, rfl, rfl, fun _ _ => rfl⟩
        have HNB : Hid (∀ b, w3.heap.size ≤ b → own b = .none ∧ ro b = .none ∧ w1.heap.size ≤ b) := fun b hb => ⟨HT3.out.log.lg.top b hb, HT3.out.ref.top b hb, Nat.le_trans HT3.out.log.grow.size hb⟩
        have HG34 := Hid.mk' hg4.size
        have c0 : w4.cell? ⟨gx, 0, none⟩ = some (.slice ap np cp) := HT4.out.ref.blk.cell 0
        have c1 : w4.cell? ⟨gx, 1, none⟩ = some (.slice aS ns cs) := HT4.out.ref.blk.cell 1
        have c2 : w4.cell? ⟨gx, 2, none⟩ = some (.slice ao no co) := HT4.out.ref.blk.cell 2
        clear hnr hmap hLl hg4 HBL HT3
        go_wp2
        clear c0 c1 c2
        go_loopw [11] (fun iv wr => ∃ (i : Nat) (M : List BE), i ≤ ns ∧ iv = .int .i64 i ∧ KRow wr w3.heap.size (.slice ab ns cb) L M i ∧ But (fun b => w3.heap.size ≤ b) w4 wr) (fun iv _ => ns - (intOf iv).toNat)
        case atStart => exact ⟨0, L, by omega, rfl, HK0.out, But.refl _ _⟩
        case round =>
          clear HK0
          obtain ⟨i, M, hi, rfl, hkr, hbt⟩ := hrel
          have HKR := Hid.mk' hkr
          have HBT := Hid.mk' hbt
          clear hkr hbt
          by_cases hil : i < ns
          · have hil' : (i : Int) < (ns : Int) := by omega
            obtain ⟨gb, rfl⟩ := HAB.out (by omega)
            obtain ⟨e, he⟩ : ∃ e, L[i]? = some e := ⟨_, List.getElem?_eq_getElem (by rw [HLL.out]; exact hil)⟩
            have hMe : M[i]? = some e := by rw [HKR.out.rest i (Nat.le_refl _)]; exact he
            obtain ⟨ei, hei⟩ : ∃ e, LS[i]? = some e := ⟨_, List.getElem?_eq_getElem (by rw [← HNS.out]; exact hil)⟩
            have hse : e.2 = ei.1.2.2.2 := by
              have h1 : (L.map (·.2))[i]? = some e.2 := by simp [he]
              rw [HMAP.out] at h1
              simpa [hei] using h1.symm
            have HTW := Hid.mk' (HT4.out.but HBT.out HNB.out)
            have hoe := HKR.out.row.el e (List.mem_of_getElem? hMe)
            obtain ⟨ae, ne, ce, hee⟩ := hoe.bs.sl
            have hne : ne = e.2.length := by
              obtain ⟨a', c', e1, -⟩ := hoe.bs.gen
              rw [hee] at e1
              simp only [Value.slice.injEq] at e1
              exact e1.2.1
            obtain ⟨aT, cs', e1, hat⟩ := HTW.out.ref.sea.at (But.refl _ wr)
            simp only [Value.slice.injEq] at e1
            obtain ⟨rfl, -, rfl⟩ := e1
            obtain ⟨gs, rfl, htv, hcel⟩ := hat i ei hei
            have cb0 : wr.cell? ⟨gb, i, none⟩ = some (.slice ae ne ce) := by rw [← hee]; exact HKR.out.row.cell hMe
            have hvz := htv.sea.1
            obtain ⟨az, nz, cz, hez⟩ := hvz.sl
            have cs0 : wr.cell? ⟨gs, i * 15 + 14, none⟩ = some (.slice az nz cz) := by
              have h1 := hcel 14 ei.2.2 (by
                show (tcells ei.1 ei.2.1 ei.2.2)[14]? = some ei.2.2
                unfold tcells
                rw [show (14 : Nat) = 13 + 1 by rfl, List.getElem?_cons_succ, List.getElem?_append_right (by simp [u8s, htv.nl])]
                simp [u8s, htv.nl])
              rw [addr_add] at h1
              rw [h1, hez]
            have HSA : Hid (∀ w', Grow wr w' → Calls Tryd.prog 14 #[.slice ae ne ce, .slice az nz cz] w' fun r w'' => r = .returned (.bool true) ∧ Grow w' w'') := fun w' hw => by
              have h1 := same_any (hoe.bs.but hw (fun _ _ _ h => h)) (hvz.but hw (fun _ _ _ h => h))
              rw [hee, hez, hse] at h1
              simp only [decide_true] at h1
              refine h1.mono ?_
              rintro r w'' ⟨rfl, d, rfl⟩
              exact ⟨rfl, (But.refl _ w').drewN⟩
            have HCB := Hid.mk' cb0
            have HCS := Hid.mk' cs0
            have HLE := Hid.mk' he
            have HEE := Hid.mk' hee
            have HNE := Hid.mk' hne
            have hneb : ne ≤ 10000 := by
              have := (HSS.out ei (List.mem_of_getElem? hei)).2
              rw [hne, hse]; exact this
            have HWG := Hid.mk' HTW.out.log.grow
            clear he hMe hei hse hoe hee hne hat htv hcel cb0 cs0 hvz hez
            go_upto_region 14 with fail
            refine region_chain [] [0, 1, 2, 3, 4, 5, 6, 7, 8, 9, 10, 11, 12, 13] (Grow wr) (Grow wr) (by kernel_rfl) (by kernel_rfl) (fun _ _ h k => h.trans k) (fun _ h => h) ((But.refl _ wr).drew) ?_
            intro ι hne X hX
            have c1 : ∀ x, (X x).cell? ⟨gx, 1, none⟩ = some (.slice (some ⟨gs, 0, none⟩) ns cs) := fun x => (HTW.out.ref.blk.but (hX x) (fun h => h)).cell 1
            have c2 : ∀ x, (X x).cell? ⟨gb, i, none⟩ = some (.slice ae ne ce) := fun x => grow_cell (hX x) HCB.out
            have c3 : ∀ x, (X x).cell? ⟨gs, i * 15 + 14, none⟩ = some (.slice az nz cz) := fun x => grow_cell (hX x) HCS.out
            iterate 12 (refine still_step rfl (fun K hK => ?_); go_simp; refine hK _ ?_; clear hK K)
            refine still_call rfl (.bool true) 14 #[.slice ae ne ce, .slice az nz cz] rfl (fun x => by kernel_rfl) (fun x => HSA.out _ (hX x)) ?_
            intro K hK; go_simp; refine hK _ ?_; clear hK K
            iterate 1 (refine still_step rfl (fun K hK => ?_); go_simp; refine hK _ ?_; clear hK K)
            refine still_nil ?_
            clear c1 c2 c3 hX hne
            intro w6 hw6
            have HK6 : Hid (KRow w6 w3.heap.size (.slice (some ⟨gb, 0, none⟩) ns cb) L M (i + 1)) := (HKR.out.but hw6 (fun _ _ _ h => h)).next
            have HB6 : Hid (But (fun b => w3.heap.size ≤ b) w4 w6) := HBT.out.trans (hw6.mono (fun _ _ h => h.elim))
            clear hw6 HKR HBT HTW HSA HCB HCS HWG
            go_wp2
            go_loopw [12] (fun kv wr => ∃ (k : Nat) (M : List BE), k ≤ ne ∧ kv = .int .i64 k ∧ KRow wr w3.heap.size (.slice (some ⟨gb, 0, none⟩) ns cb) L M (i + 1) ∧ But (fun b => w3.heap.size ≤ b) w4 wr) (fun kv _ => ne - (intOf kv).toNat)
            case atStart => exact ⟨0, M, by omega, rfl, HK6.out, HB6.out⟩
            case round =>
              clear HK6 HB6
              obtain ⟨k, M, hk, rfl, hkr, hbt⟩ := hrel
              obtain ⟨zs, hMz, hzl⟩ := hkr.at HLE.out
              rw [HEE.out] at hMz
              rw [← HNE.out] at hzl
              have HKR := Hid.mk' hkr
              have HBT := Hid.mk' hbt
              have HMZ := Hid.mk' hMz
              have HZL' := Hid.mk' hzl
              have HEL := Hid.mk' (hkr.row.el _ (List.mem_of_getElem? hMz))
              have cb0 : wr.cell? ⟨gb, i, none⟩ = some (.slice ae ne ce) := hkr.row.cell hMz
              have HCB := Hid.mk' cb0
              clear hkr hbt hMz hzl
              by_cases hkl : k < ne
              · have hkl' : (k : Int) < (ne : Int) := by omega
                obtain ⟨ge, cap, R, e1, hge, hb, hR, hc, hm⟩ := HEL.out.opn (by show 0 < zs.length; rw [HZL'.out]; omega)
                simp only [Value.slice.injEq] at e1
                obtain ⟨rfl, -, rfl⟩ := e1
                have hzj : zs.getD k 0 < 256 := HEL.out.lt _ (getD_mem zs k (by rw [HZL'.out]; exact hkl))
                obtain ⟨z, hz⟩ : ∃ z, z = zs.getD k 0 := ⟨_, rfl⟩
                rw [← hz] at hzj
                have ck0 : wr.cell? ⟨ge, k, none⟩ = some (.int .u8 (z : Int)) := by
                  rw [hb.cell, List.getElem?_append_left (by simp [u8s, HZL'.out]; omega), u8s_get zs k (by rw [HZL'.out]; omega), hz]
                have hw1 : IntKind.u8.wrap ((z : Int) + 1) = (((z + 1) % 256 : Nat) : Int) := u8_next z hzj
                obtain ⟨y, hy⟩ : ∃ y, y = (z + 1) % 256 := ⟨_, rfl⟩
                have HY : Hid (y < 256) := by show _ < _; omega
                rw [← hy] at hw1
                have HBB := Hid.mk' hb
                have HGE := Hid.mk' hge
                have HCK := Hid.mk' ck0
                have HBL2 : Hid (k < (u8s zs ++ R).length) := by show _ < _; simp [u8s, HZL'.out]; omega
                clear hb hge hR hc hm hz hzj hy ck0
                go_upto_region 19 with fail
                clear cb0
                refine region_chain [([0, 1, 2, 3, 4, 5, 6, 7, 8, 9, 10, 11, 12, 13], 14)] [] (Grow wr) (Grow wr) (by kernel_rfl) (by kernel_rfl) (fun _ _ h k => h.trans k) (fun _ h => h) ((But.refl _ wr).drew) ?_
                intro ι hne X hX
                have c2 : ∀ x, (X x).cell? ⟨gb, i, none⟩ = some (.slice (some ⟨ge, 0, none⟩) ne ce) := fun x => grow_cell (hX x) HCB.out
                have c3 : ∀ x, (X x).cell? ⟨ge, k, none⟩ = some (.int .u8 (z : Int)) := fun x => grow_cell (hX x) HCK.out
                iterate 14 (refine still_step rfl (fun K hK => ?_); go_simp; refine hK _ ?_; clear hK K)
                refine still_nil ?_
                clear c2 c3 hX hne
                refine turn_run rfl rfl (fun _ w' => ∃ wq, Grow wr wq ∧ Grow (wq.setCell ⟨ge, k, none⟩ (.int .u8 (y : Int))) w') (fun _ _ => True) ?_ (fun _ _ _ => trivial) (.inl (by kernel_rfl)) ?_ ?_
                · rintro v w5 w6 ⟨wq, h1, h2⟩ h3
                  exact ⟨wq, h1, h2.trans h3⟩
                · intro w5 h5
                  exact turn_store (by kernel_rfl) rfl rfl rfl rfl (HBB.out.but h5 (fun h => h)) HBL2.out ⟨w5, h5, But.refl _ _⟩
                · rintro v5 - Y hY
                  go_simp
                  refine hY _ ?_
                  clear hY Y
                  intro ι hne X hX
                  refine still_nil ?_
                  clear hX hne
                  rintro w6 ⟨wq, h1, h2⟩
                  have hel := HEL.out.but h1 (fun _ _ _ h => h)
                  have hel2 := (hel.setA (y := y) HZL'.out (by rw [HZL'.out]; exact hkl) HY.out)
                  have hkr2 := (HKR.out.but h1 (fun _ _ _ h => h)).set HMZ.out (zs := zs.set k y) (by rw [List.length_set]) hel2 ((But.set1 _ _ _ _).mono (fun b _ e => by rw [e]; rfl))
                  have HK6 := Hid.mk' (hkr2.but h2 (fun _ _ _ h => h))
                  have HB6 : Hid (But (fun b => w3.heap.size ≤ b) w4 w6) := (HBT.out.trans (h1.mono (fun _ _ h => h.elim))).trans (((But.set1 wq ge k (.int .u8 (y : Int))).mono (fun b _ e => by rw [e]; exact HGE.out)).trans (h2.mono (fun _ _ h => h.elim)))
                  clear h1 h2 hel hel2 hkr2
                  go_wp2
                  exact ⟨⟨k + 1, _, by omega, by go_num, HK6.out, HB6.out⟩, by simp [intOf]; omega⟩
              · have hkl' : ¬ ((k : Int) < (ne : Int)) := by omega
                go_wp2
                exact ⟨⟨i + 1, M, by omega, by go_num, HKR.out, HBT.out⟩, by simp [intOf]; omega⟩
          · have hil' : ¬ ((i : Int) < (ns : Int)) := by omega
            have HTW := Hid.mk' (HT4.out.but HBT.out HNB.out)
            have HFO := Hid.mk' (forged_any HTW.out.log.lg (fun p hp => by
              obtain ⟨e, he, rfl⟩ := List.mem_map.1 hp
              have := HSO.out e he; omega) (by rw [List.length_map]; have := HLEN.out; omega) (by rw [List.length_map]; have := HLEN.out; omega))
            have HWS := Hid.mk' HBT.out.size
            clear HBT HKR
            go_wp2_with fail
            refine Calls.mono HFO.out ?_
            rintro e w6 ⟨hg6, T, va, vz, ok, rfl, hnew, hfi⟩
            have HT6 := Hid.mk' (HTW.out.then hg6)
            have HN6 : Hid (∀ b, wr.heap.size ≤ b → own b = .none ∧ ro b = .none ∧ w1.heap.size ≤ b) := fun b hb => ⟨HTW.out.log.lg.top b hb, HTW.out.ref.top b hb, Nat.le_trans HTW.out.log.grow.size hb⟩
            have HSZ : Hid (T.2.2.2.length ≤ 10000) := by
              rcases hfi with ⟨-, hh⟩ | ⟨-, -, rfl⟩
              · have h1 : T ∈ outOf (LS.map (·.1)) (LO.map (·.1)) := List.mem_of_mem_head? hh
                unfold outOf at h1
                obtain ⟨h2, -⟩ := List.mem_filter.1 h1
                obtain ⟨e, he, rfl⟩ := List.mem_map.1 h2
                exact (HSO.out e he).2
              · show ([] : List Nat).length ≤ 10000; decide
            obtain ⟨az, nz, cz, rfl⟩ := hnew.sea.bs.sl
            have hnz : nz = T.2.2.2.length := by
              obtain ⟨a', c', e1, -⟩ := hnew.sea.bs.gen
              simp only [Value.slice.injEq] at e1
              exact e1.2.1
            have hnzb : nz ≤ 10000 := by rw [hnz]; exact HSZ.out
            obtain ⟨C, hC⟩ : ∃ C, C = tcells T va (.slice az nz cz) := ⟨_, rfl⟩
            have HCE := Hid.mk' hC
            have HCL : Hid (C.length = 15) := by show _ = _; rw [hC]; exact tcells_len hnew.nl _ _
            have HCO : Hid (∀ u ∈ C, u.oneCell' = true) := by show ∀ u ∈ C, _; rw [hC]; exact tcells_one hnew.aad.bs.one hnew.sea.bs.one
            have HC14 : Hid (C[14]? = some (.slice az nz cz)) := by
              show _ = _
              rw [hC]
              unfold tcells
              rw [show (14 : Nat) = 13 + 1 by rfl, List.getElem?_cons_succ, List.getElem?_append_right (by simp [u8s, hnew.nl])]
              simp [u8s, hnew.nl]
            have HOZ := Hid.mk' hnew.sea
            have HNZ := Hid.mk' hnz
            have HBY : Hid (Blk (w6.alloc (.cells Z.toArray 46)) w6.heap.size 46 Z) := Blk.new rfl
            have HS6 := Hid.mk' hg6.size
            rw [← hC]
            clear hC hnew hfi hg6 HFO HTW hnz
            go_upto_region 21 with (first
              | (refine wpList_store_at rfl _ _ _ rfl w6.heap.size 0 C rfl rfl 46 [] Z [] (by simpa using HBY.out) rfl (by rw [HZL.out, HCL.out]) (by rw [iT, HCL.out]) HCO.out ?_; intro w7 hb7 hbut7; rw [List.nil_append, List.append_nil] at hb7)
              | fail)
            obtain ⟨g7, hg7⟩ : ∃ g, g = w6.heap.size := ⟨_, rfl⟩
            rw [← hg7] at hb7 hbut7 ⊢
            have hG7 : Grow w6 w7 := ((But.refl _ w6).alloc _).then hbut7 (fun i hi e => by omega)
            have HB7 := Hid.mk' hb7
            have HT7 := Hid.mk' (HT6.out.then hG7)
            have HO7 := Hid.mk' (HOZ.out.but hG7 (fun _ _ _ h => h))
            have HZ7 : Hid (∀ j, (.slice az nz cz : Value).ownBlock = some j → wr.heap.size ≤ j ∧ j ≠ g7) := fun j hj => ⟨(HOZ.out.ge j hj).1, by have := (HOZ.out.ge j hj).2; omega⟩
            clear hb7 hbut7 hG7 hg7 HBY HT6 HOZ
            obtain ⟨wR, hwR⟩ : ∃ s, s = wr.heap.size := ⟨_, rfl⟩
            rw [← hwR] at HN6 HO7 HZ7
            clear hwR HWS HS6
            go_wp2
            go_loopw [15] (fun kv wr => ∃ (k : Nat) (zs : List Nat), k ≤ nz ∧ kv = .int .i64 k ∧ zs.length = nz ∧ Ow wr wR (.slice az nz cz) zs ∧ Blk wr g7 46 C ∧ But (fun b => (.slice az nz cz : Value).ownBlock = some b) w7 wr) (fun kv _ => nz - (intOf kv).toNat)
            case atStart => exact ⟨0, T.2.2.2, by omega, rfl, HNZ.out.symm, HO7.out, HB7.out, But.refl _ _⟩
            case round =>
              clear HO7 HB7
              obtain ⟨k, zs, hk, rfl, hzl, how, hbk, hbt⟩ := hrel
              have HOW := Hid.mk' how
              have HBK := Hid.mk' hbk
              have HBT := Hid.mk' hbt
              have HZL' := Hid.mk' hzl
              have c14 : wr.cell? ⟨g7, 14, none⟩ = some (.slice az nz cz) := by rw [hbk.cell]; exact HC14.out
              have HCC := Hid.mk' c14
              clear how hbk hbt hzl
              by_cases hkl : k < nz
              · have hkl' : (k : Int) < (nz : Int) := by omega
                obtain ⟨ge, cap, R, e1, hge, hb, hR, hc, hm⟩ := HOW.out.opn (by rw [HZL'.out]; omega)
                simp only [Value.slice.injEq] at e1
                obtain ⟨rfl, -, rfl⟩ := e1
                have hzj : zs.getD k 0 < 256 := HOW.out.lt _ (getD_mem zs k (by rw [HZL'.out]; exact hkl))
                obtain ⟨z, hz⟩ : ∃ z, z = zs.getD k 0 := ⟨_, rfl⟩
                rw [← hz] at hzj
                have ck0 : wr.cell? ⟨ge, k, none⟩ = some (.int .u8 (z : Int)) := by
                  rw [hb.cell, List.getElem?_append_left (by simp [u8s, HZL'.out]; omega), u8s_get zs k (by rw [HZL'.out]; omega), hz]
                have hw1 : IntKind.u8.wrap ((z : Int) + 1) = (((z + 1) % 256 : Nat) : Int) := u8_next z hzj
                obtain ⟨y, hy⟩ : ∃ y, y = (z + 1) % 256 := ⟨_, rfl⟩
                have HY : Hid (y < 256) := by show _ < _; omega
                rw [← hy] at hw1
                have HBB := Hid.mk' hb
                have HCK := Hid.mk' ck0
                have HBL2 : Hid (k < (u8s zs ++ R).length) := by show _ < _; simp [u8s, HZL'.out]; omega
                clear hb hge hR hc hm hz hzj hy ck0
                go_upto_region 24 with fail
                clear c14
                refine region_chain [([0, 1, 2, 3, 4, 5, 6, 7, 8, 9], 10)] [] (Grow wr) (Grow wr) (by kernel_rfl) (by kernel_rfl) (fun _ _ h k => h.trans k) (fun _ h => h) ((But.refl _ wr).drew) ?_
                intro ι hne X hX
                have c2 : ∀ x, (X x).cell? ⟨g7, 14, none⟩ = some (.slice (some ⟨ge, 0, none⟩) nz cz) := fun x => grow_cell (hX x) HCC.out
                have c3 : ∀ x, (X x).cell? ⟨ge, k, none⟩ = some (.int .u8 (z : Int)) := fun x => grow_cell (hX x) HCK.out
                iterate 10 (refine still_step rfl (fun K hK => ?_); go_simp; refine hK _ ?_; clear hK K)
                refine still_nil ?_
                clear c2 c3 hX hne
                refine turn_run rfl rfl (fun _ w' => ∃ wq, Grow wr wq ∧ Grow (wq.setCell ⟨ge, k, none⟩ (.int .u8 (y : Int))) w') (fun _ _ => True) ?_ (fun _ _ _ => trivial) (.inl (by kernel_rfl)) ?_ ?_
                · rintro v w5 w6 ⟨wq, h1, h2⟩ h3
                  exact ⟨wq, h1, h2.trans h3⟩
                · intro w5 h5
                  exact turn_store (by kernel_rfl) rfl rfl rfl rfl (HBB.out.but h5 (fun h => h)) HBL2.out ⟨w5, h5, But.refl _ _⟩
                · rintro v5 - Y hY
                  go_simp
                  refine hY _ ?_
                  clear hY Y
                  intro ι hne X hX
                  refine still_nil ?_
                  clear hX hne
                  rintro w8 ⟨wq, h1, h2⟩
                  have hs1 : But (fun b => (.slice (some ⟨ge, 0, none⟩) nz cz : Value).ownBlock = some b) wq (wq.setCell ⟨ge, k, none⟩ (.int .u8 (y : Int))) := (But.set1 _ _ _ _).mono (fun b _ e => by rw [e]; rfl)
                  have HO8 := Hid.mk' (((HOW.out.but h1 (fun _ _ _ h => h)).setA (y := y) HZL'.out (by rw [HZL'.out]; exact hkl) HY.out).but h2 (fun _ _ _ h => h))
                  have HB8 := Hid.mk' (((HBK.out.but h1 (fun h => h)).but hs1 (fun e => (HZ7.out g7 e).2 rfl)).but h2 (fun h => h))
                  have HT8 := Hid.mk' (((HBT.out.trans (h1.mono (fun _ _ h => h.elim))).trans hs1).trans (h2.mono (fun _ _ h => h.elim)))
                  clear h1 h2 hs1
                  go_wp2
                  exact ⟨⟨k + 1, _, by omega, by go_num, by rw [List.length_set]; exact HZL'.out, HO8.out, HB8.out, HT8.out⟩, by simp [intOf]; omega⟩
              · have hkl' : ¬ ((k : Int) < (nz : Int)) := by omega
                have HTE := Hid.mk' (HT7.out.but HBT.out (fun b e => HN6.out b (HZ7.out b e).1))
                go_wp2
                exact ⟨⟨t + 1, by omega, by go_num, HTE.out⟩, by simp [intOf]; omega⟩
      · have htl' : ¬ ((t : Int) < 2) := by omega
        have HGR := Hid.mk' (HG1.out.trans hT.log.grow)
        clear hT
        go_wp2_with fail
        refine Calls.mono (awake_any wr) ?_
        rintro e w8 ⟨rfl, hg8⟩
        go_wp2
        go_ret
        exact ⟨rfl, (HGR.out.trans hg8).below (Nat.le_refl _) (fun _ _ h => h)⟩
end Go.Proofs.YthpgjbblbhjndaaDoor
