/- Whatever is asked for and let go, each call is answered as the document says, and each task has and waits for what it says: for any acts. No condition. -/
import Derived.Test.YtgldkckhliklhaaLtTwo
import Derived.Test.YtgldkckhliklhaaPast
namespace Go.Proofs.Ytgldkckhliklhaa
open Go.ChangeShapes Go.WideShapes Go.ChangeAt Go.RowKit Go.Maps

theorem bldTb (w : World) : (Instr.build 28 #[]).run Try.prog w = .ok (.agg #[.slice none 0 0, .slice none 0 0]) w := by kernel_rfl
theorem tl_new {w w1 : World} {gt : Nat} (h : Ll (fun _ => False) w w1 gt Ls.new) : Tl (fun _ => False) w (w1.alloc (.cells #[.slice none 0 0, .slice none 0 0] 28)) gt w1.heap.size Ls.new Ls.new := by
  have k1 : Grow w1 (w1.alloc (.cells #[.slice none 0 0, .slice none 0 0] 28)) := (But.refl _ _).alloc _
  have b1 : Blk (w1.alloc (.cells #[.slice none 0 0, .slice none 0 0] 28)) w1.heap.size 28 [.slice none 0 0, .slice none 0 0] := Blk.new (L := [.slice none 0 0, .slice none 0 0]) rfl
  refine ⟨⟨.slice none 0 0, .slice none 0 0, ⟨b1, World.ownsRow_nil _ _ _ _, World.ownsRow_nil _ _ _ _, (fun b hb => by cases hb), (fun b hb => by cases hb), by decide, by decide⟩, h.add k1 (fun b hb => .inr ?_), fun b hb => ⟨?_, fun e => e⟩⟩, LAgr.refl _, Lok.new⟩
  · rcases hb with (e | e | e) | e
    · have := b1.lt; omega
    · cases e
    · cases e
    · exact e.elim
  · rcases hb with e | e | e
    · have := h.grow.size; omega
    · cases e
    · cases e
set_option maxRecDepth 100000 in
set_option maxHeartbeats 8000000 in
theorem latchPlays_walk (v0 : Value) (l : Nat) (A : Nat → LA) (w : World) (hv : LActs w v0 l A) : Calls Try.prog 3 #[v0] w fun e w' => e = .returned (.bool true) ∧ Below w.heap.size w w' := by
  obtain ⟨ao, cap, rfl⟩ := hv.len
  have HV := Hid.mk' hv
  have hl : (l : Int) ≤ 140737488351232 := by have := hv.1; omega
  have HN := Hid.mk' (ll_new w)
  clear hv
  go_enter Try.func3, Try.ntmps3
  go_wp2_with fail
  refine Calls.mono HN.out ?_
  rintro e w1 ⟨gt, rfl, h1⟩
  have H1 := Hid.mk' (tl_new h1)
  obtain ⟨gx, hgx⟩ : ∃ gx, gx = w1.heap.size := ⟨_, rfl⟩
  have HGX := Hid.mk' hgx
  rw [← hgx] at H1
  clear h1 HN hgx
  go_wp2_with (first
    | (refine wpList_build_run rfl _ [] rfl [] rfl _ (bldTb _) ?_)
    | fail)
  rw [← HGX.out]
  go_loopw [5] (fun iv wr => ∃ i : Nat, i ≤ l ∧ i ≤ 120 ∧ iv = .int .i64 i ∧ ∃ s x, Tl (fun _ => False) w wr gt gx s x ∧ s.has.length + s.q.length ≤ i) (fun iv _ => l - (intOf iv).toNat)
  case atStart => exact ⟨0, Nat.zero_le _, by decide, rfl, _, _, H1.out, Nat.le_refl _⟩
  case round =>
    clear H1
    obtain ⟨i, hil, hi120, rfl, s, x, hL, hs⟩ := hrel
    by_cases hlt : i < l ∧ i < 120
    · have hlti : (i : Int) < (l : Int) := by omega
      have hlt2 : (i : Int) < 120 := by omega
      obtain ⟨b, off, cap', e1, hbl, hA⟩ := HV.out.at hlt.1
      simp only [Value.slice.injEq] at e1
      obtain ⟨rfl, -, rfl⟩ := e1
      obtain ⟨⟨hok1, hok2, hok3⟩, -⟩ := hA i hlt.1
      have HOK2 := Hid.mk' hok2
      have HOK3 := Hid.mk' hok3
      have HAA := Hid.mk' hA
      have HL := Hid.mk' hL
      have HS := Hid.mk' hs
      have HLT := Hid.mk' hlt
      clear hL hs hA hok1 hok2 hok3 hbl hil hi120
      have HCW : Hid (∀ c u, (lac (A i))[c]? = some u → wr.cell? ((⟨b, off + i * 4, none⟩ : Addr).add c) = some u) := fun c u hc => by
        rw [addr_add]; exact grow_cell HL.out.grow ((HAA.out i (by omega)).2 c u hc)
      obtain ⟨ga, hg⟩ : ∃ g, g = wr.heap.size := ⟨_, rfl⟩
      have HGga := Hid.mk' hg
      have HAL : Hid (Grow wr (wr.alloc (.cells #[.int .i64 0, .int .i64 0, .int .i64 0, .bool false] 30))) := (But.refl _ wr).alloc _
      have HBZ : Hid (Blk (wr.alloc (.cells #[.int .i64 0, .int .i64 0, .int .i64 0, .bool false] 30)) ga 30 [.int .i64 0, .int .i64 0, .int .i64 0, .bool false]) := Blk.new (L := [.int .i64 0, .int .i64 0, .int .i64 0, .bool false]) hg.symm
      have HONE := Hid.mk' (lac_one (A i))
      clear hg
      go_upto_region 7 with (first
        | (refine wpList_load_cells rfl _ _ rfl ⟨b, off + i * 4, none⟩ rfl (lac (A i)) _ HCW.out Try.underlying30 rfl iLa ?_)
        | (refine wpList_store_at rfl _ _ _ rfl ga 0 (lac (A i)) (by rw [HGga.out]; rfl) rfl 30 [] [.int .i64 0, .int .i64 0, .int .i64 0, .bool false] [] (by simpa using HBZ.out) rfl rfl iLa HONE.out ?_; intro w3 hb3 hbut3; rw [List.nil_append, List.append_nil] at hb3)
        | fail)
      have HGRga : Hid (Grow wr w3) := HAL.out.then hbut3 (fun j hj e => by have := HGga.out; omega)
      have HBga : Hid (Blk w3 ga 30 (lac (A i))) := hb3
      rw [← HGga.out]
      clear hb3 hbut3 HAL HBZ HCW HONE
      clear hlt
      have HT3 : Hid (Tl (· = ga) w w3 gt gx s x) := HL.out.box HGRga.out (by have := HGga.out; omega) HBga.out.lt
      have a0 : w3.cell? ⟨ga, 0, none⟩ = some (.int .i64 (A i).kind) := HBga.out.cell 0
      have HP := Hid.mk' (pick_any (A i).kind 6 w3 (by decide) (by decide))
      have HBA : Hid (Blk w3 ga 30 [.int .i64 (A i).kind, .int .i64 (A i).task, .int .i64 (A i).key, .bool (A i).alone]) := HBga.out
      generalize (A i).kind = kd at *
      generalize (A i).task = tk at *
      generalize (A i).key = ky at *
      generalize (A i).alone = al at *
      clear HL
      go_wp2_with fail
      refine Calls.mono HP.out ?_
      rintro e w' ⟨rfl, hw⟩
      have h2 := hw.symm
      subst h2
      clear hw HP a0
      rcases (by omega : kd % 6 < 2 ∨ ¬ kd % 6 < 2) with hp | hp
      case' inl =>
        go_upto_region 8 with fail
        refine region_chain [([0, 1, 2, 4, 5, 6], 3), ([], 7)] [8, 9] (fun wz => Blk wz ga 30 [.int .i64 kd, .int .i64 tk, .int .i64 ky, .bool al]) (fun wz => Grow w3 wz) (by kernel_rfl) (by kernel_rfl) (fun _ _ h k => h.trans k) (fun _ h => HBA.out.but h (fun h => h)) ((But.refl _ w3).drew) ?_
        intro ι hne X hX
        have d1 : ∀ z, (X z).cell? ⟨ga, 1, none⟩ = some (.int .i64 tk) := fun z => (hX z).cell 1
        iterate 6 (refine still_step rfl (fun K hK => ?_); go_simp; refine hK _ ?_; clear hK K)
        refine still_nil ?_
        clear hX hne d1 X ι
        refine turn_call rfl rfl (fun v wz => TlF (· = ga) w gt gx s x tk v wz ∧ But (Kp (· = ga) w) w3 wz) (fun _ wz => Blk wz ga 30 [.int .i64 kd, .int .i64 tk, .int .i64 ky, .bool al]) (fun _ _ _ h k => ⟨h.1.then k, h.2.trans (k.mono (fun _ _ h => h.elim))⟩) (fun _ _ h => HBA.out.but h.2 (fun e => e.2 rfl)) (.inr (fun _ _ h => h)) 12 #[ptr gt, .int .i64 tk] (fun _ => by kernel_rfl) ?_ ?_
        · intro wz hz
          refine (tl_free (HT3.out.then hz) HOK2.out (by have := HS.out; omega)).mono ?_
          rintro e w' ⟨v, rfl, h1, h2⟩
          exact ⟨v, rfl, h1, (hz.mono (fun _ _ h => h.elim)).trans h2⟩
        rintro v - Y hY
        go_simp
        refine hY _ ?_
        clear hY Y
        intro ι hne X hX
        refine still_nil ?_
        clear hX hne X ι
        refine turn_call rfl rfl (fun u wz => TlG (· = ga) w gt gx i v u wz ∧ Blk wz ga 30 [.int .i64 kd, .int .i64 tk, .int .i64 ky, .bool al]) (fun u wz => TlG (· = ga) w gt gx i v u wz ∧ Blk wz ga 30 [.int .i64 kd, .int .i64 tk, .int .i64 ky, .bool al]) (fun _ _ _ h k => ⟨h.1.then k, h.2.but k (fun h => h)⟩) (fun _ _ h => h) (.inr (fun _ _ h => h.2)) 13 #[ptr gx, .int .i64 tk] (fun _ => by kernel_rfl) ?_ ?_
        · rintro wz ⟨hz, hb⟩
          refine (tl_rfree HT3.out (fun b hb2 => Nat.lt_of_lt_of_le (HT3.out.lt b hb2) hb.size) hz (by have := HS.out; omega)).mono ?_
          rintro e w' ⟨u, rfl, ⟨r, s', x', q1, q2, q3, q4⟩, q5⟩
          exact ⟨u, rfl, ⟨r, s', x', q1, q2, q3, by have := HS.out; omega⟩, (HBA.out.but hb (fun e => e.2 rfl)).but q5 (fun e => e.2 rfl)⟩
        rintro u - Y hY
        go_simp
        refine hY _ ?_
        clear hY Y
        intro ι hne X hX
        refine still_call rfl (.bool true) 11 #[v, u] rfl (fun x => by kernel_rfl) (fun z => by
          obtain ⟨⟨r, s', x', q1, q2, q3, q4⟩, -⟩ := hX z
          have := sameints_any q1 q2
          rw [decide_eq_true rfl] at this
          exact this) ?_
        intro K hK; go_simp; refine hK _ ?_; clear hK K
        iterate 1 (refine still_step rfl (fun K hK => ?_); go_simp; refine hK _ ?_; clear hK K)
        refine still_nil ?_
        clear hX hne X ι
        rintro w4 ⟨⟨r, s4, x4, -, -, q3, q4⟩, -⟩
        have H4 := Hid.mk' (q3.less (E' := fun _ => False) (fun _ h => h.elim))
        have HS4 : Hid (s4.has.length + s4.q.length ≤ i + 1) := Hid.mk' (by omega)
        clear q3 q4 r
      case' inr =>
        have a1 : w3.cell? ⟨ga, 1, none⟩ = some (.int .i64 tk) := HBA.out.cell 1
        have a2 : w3.cell? ⟨ga, 2, none⟩ = some (.int .i64 ky) := HBA.out.cell 2
        have a3 : w3.cell? ⟨ga, 3, none⟩ = some (.bool al) := HBA.out.cell 3
        have HA := Hid.mk' (tl_ask (a := al) HT3.out HOK2.out HOK3.out (by have := HS.out; omega))
        go_wp2_with fail
        refine Calls.mono HA.out ?_
        rintro e w5 ⟨rfl, h5, b5⟩
        have hb5 := HBA.out.but b5 (fun e => e.2 rfl)
        have HRA := Hid.mk' (tl_rask HT3.out (fun b hb2 => Nat.lt_of_lt_of_le (HT3.out.lt b hb2) b5.size) h5 HOK2.out HOK3.out (by have := HS.out; omega))
        clear a1 a2 a3
        have a1 : w5.cell? ⟨ga, 1, none⟩ = some (.int .i64 tk) := hb5.cell 1
        have a2 : w5.cell? ⟨ga, 2, none⟩ = some (.int .i64 ky) := hb5.cell 2
        have a3 : w5.cell? ⟨ga, 3, none⟩ = some (.bool al) := hb5.cell 3
        have HS4 : Hid ((s.asked (tk, ky, al)).has.length + (s.asked (tk, ky, al)).q.length ≤ i + 1) := Hid.mk' (by have := asked_sum s (tk, ky, al); have := HS.out; omega)
        clear h5 b5 hb5 HA
        generalize s.got (tk, ky, al) = gy at *
        generalize s.askc (tk, ky, al) = gz at *
        generalize s.asked (tk, ky, al) = s4 at *
        generalize x.asked (tk, ky, al) = x4 at *
        go_wp2_with fail
        refine Calls.mono HRA.out ?_
        rintro e w4 ⟨rfl, h4, -⟩
        have H4 := Hid.mk' (h4.less (E' := fun _ => False) (fun _ h => h.elim))
        have hgy : (gy != gy) = false := by cases gy <;> rfl
        have hgz : (gz != gz) = false := by simp
        clear h4 HRA a1 a2 a3
      all_goals
        clear HS HT3 HOK2 HOK3 hp HBga HBA HGRga HGga
        go_wp2
        go_loopw [11] (fun kv wr => ∃ k : Nat, k ≤ i + 1 ∧ kv = .int .i64 k ∧ Grow w4 wr) (fun kv _ => i + 1 - (intOf kv).toNat)
        case atStart => exact ⟨0, Nat.zero_le _, rfl, But.refl _ _⟩
        case round =>
          obtain ⟨k, hk, rfl, hg4⟩ := hrel
          have HG4 := Hid.mk' hg4
          have HK := Hid.mk' hk
          clear hg4 hk
          by_cases hki : (k : Int) ≤ (i : Int)
          · have hkl : (k : Int) < (l : Int) := by omega
            have HCW : Hid (∀ c u, (lac (A k))[c]? = some u → wr.cell? ((⟨b, off + k * 4, none⟩ : Addr).add c) = some u) := fun c u hc => by
              rw [addr_add]; exact grow_cell (H4.out.grow.trans HG4.out) ((HAA.out k (by omega)).2 c u hc)
            obtain ⟨gb, hg⟩ : ∃ g, g = wr.heap.size := ⟨_, rfl⟩
            have HGgb := Hid.mk' hg
            have HAL : Hid (Grow wr (wr.alloc (.cells #[.int .i64 0, .int .i64 0, .int .i64 0, .bool false] 30))) := (But.refl _ wr).alloc _
            have HBZ : Hid (Blk (wr.alloc (.cells #[.int .i64 0, .int .i64 0, .int .i64 0, .bool false] 30)) gb 30 [.int .i64 0, .int .i64 0, .int .i64 0, .bool false]) := Blk.new (L := [.int .i64 0, .int .i64 0, .int .i64 0, .bool false]) hg.symm
            have HONE := Hid.mk' (lac_one (A k))
            clear hg
            go_upto_region 18 with (first
              | (refine wpList_load_cells rfl _ _ rfl ⟨b, off + k * 4, none⟩ rfl (lac (A k)) _ HCW.out Try.underlying30 rfl iLa ?_)
              | (refine wpList_store_at rfl _ _ _ rfl gb 0 (lac (A k)) (by rw [HGgb.out]; rfl) rfl 30 [] [.int .i64 0, .int .i64 0, .int .i64 0, .bool false] [] (by simpa using HBZ.out) rfl rfl iLa HONE.out ?_; intro w6 hb3 hbut3; rw [List.nil_append, List.append_nil] at hb3)
              | fail)
            have HGRgb : Hid (Grow wr w6) := HAL.out.then hbut3 (fun j hj e => by have := HGgb.out; omega)
            have HBgb : Hid (Blk w6 gb 30 (lac (A k))) := hb3
            rw [← HGgb.out]
            clear hb3 hbut3 HAL HBZ HCW HONE
            obtain ⟨hoks, -⟩ := HAA.out k (by omega)
            obtain ⟨-, hok2, hok3⟩ := hoks
            have HOK2 := Hid.mk' hok2
            have HOK3 := Hid.mk' hok3
            have HT6 : Hid (Tl (fun _ => False) w w6 gt gx s4 x4) := H4.out.then (HG4.out.trans HGRgb.out)
            have HG46 : Hid (Grow w4 w6) := HG4.out.trans HGRgb.out
            obtain ⟨vh6, vq6, t1, t2, t3⟩ := HT6.out.ex
            have HWA := Hid.mk' (ll_waits t2 hok2)
            have HBB : Hid (Blk w6 gb 30 [.int .i64 (A k).kind, .int .i64 (A k).task, .int .i64 (A k).key, .bool (A k).alone]) := HBgb.out
            have a1 : w6.cell? ⟨gb, 1, none⟩ = some (.int .i64 (A k).task) := HBB.out.cell 1
            have HRW : Hid (∀ wz, Grow w6 wz → Calls Try.prog 17 #[ptr gx, .int .i64 (A k).task] wz fun e w' => e = .returned (.tuple #[.int .i64 (s4.waitK (A k).task), .bool (s4.wait (A k).task)]) ∧ w' = wz) := fun wz hz => by
              have := rwaits_any (t1.grow hz) (A k).task
              rw [(HT6.out.agr.wait _).1, (HT6.out.agr.wait _).2] at this
              exact this
            have HPH : Hid (∀ wz, Grow w6 wz → Calls Try.prog 18 #[ptr gt, .int .i64 (A k).task, .int .i64 (A k).key] wz fun e w' => e = .returned (.int .i64 (s4.hold (A k).task (A k).key)) ∧ Grow wz w') := fun wz hz => (ll_holds (t2.then hz) HOK2.out HOK3.out).mono (fun e w' h => ⟨h.1, by rw [h.2]; exact But.refl _ _⟩)
            have HRH : Hid (∀ wz, Grow w6 wz → Calls Try.prog 19 #[ptr gx, .int .i64 (A k).task, .int .i64 (A k).key] wz fun e w' => e = .returned (.int .i64 (s4.hold (A k).task (A k).key)) ∧ Grow wz w') := fun wz hz => by
              have := rhold_any (t1.grow hz) (A k).task (A k).key
              rw [HT6.out.agr.hold HT6.out.oks HT6.out.ok] at this
              exact this.mono (fun e w' h => ⟨h.1, by rw [h.2]; exact But.refl _ _⟩)
            clear hok2 hok3 t1 t2 t3 HBgb HGRgb HGgb HT6
            generalize s4.waitK (A k).task = kq at *
            generalize s4.wait (A k).task = wq at *
            generalize s4.hold (A k).task (A k).key = hh at *
            generalize (A k).kind = kd1 at *
            generalize (A k).task = tk1 at *
            generalize (A k).key = ky1 at *
            generalize (A k).alone = al1 at *
            go_wp2_with fail
            refine Calls.mono HWA.out ?_
            rintro e w7 ⟨rfl, -, h7⟩
            have HG7 := Hid.mk' h7
            have HRW7 := Hid.mk' (HRW.out w7 h7)
            clear a1
            have a1 : w7.cell? ⟨gb, 1, none⟩ = some (.int .i64 tk1) := (HBB.out.but h7 (fun h => h)).cell 1
            clear h7 HWA HRW
            go_wp2_with fail
            refine Calls.mono HRW7.out ?_
            rintro e w8 ⟨rfl, hw⟩
            have h2 := hw.symm
            subst h2
            clear hw HRW7 a1
            have hq1 : (kq != kq) = false := by simp
            have hq2 : (wq != wq) = false := by cases wq <;> rfl
            have hq3 : (hh != hh) = false := by simp
            go_upto_region 20 with fail
            refine region_chain [] [0, 1, 2, 3, 4, 5, 6, 7, 8, 9, 10, 11, 12, 13, 14, 15, 16, 17, 18, 19, 20, 21, 22] (Grow w7) (Grow w7) (by kernel_rfl) (by kernel_rfl) (fun _ _ h k => h.trans k) (fun _ h => h) ((But.refl _ w7).drew) ?_
            intro ι hne X hX
            have d1 : ∀ z, (X z).cell? ⟨gb, 1, none⟩ = some (.int .i64 tk1) := fun z => (HBB.out.but (HG7.out.trans (hX z)) (fun h => h)).cell 1
            have d2 : ∀ z, (X z).cell? ⟨gb, 2, none⟩ = some (.int .i64 ky1) := fun z => (HBB.out.but (HG7.out.trans (hX z)) (fun h => h)).cell 2
            iterate 14 (refine still_step rfl (fun K hK => ?_); go_simp; refine hK _ ?_; clear hK K)
            refine still_call rfl (.int .i64 hh) 18 #[ptr gt, .int .i64 tk1, .int .i64 ky1] rfl (fun x => by kernel_rfl) (fun x => HPH.out _ (HG7.out.trans (hX x))) ?_
            intro K hK; go_simp; refine hK _ ?_; clear hK K
            iterate 5 (refine still_step rfl (fun K hK => ?_); go_simp; refine hK _ ?_; clear hK K)
            refine still_call rfl (.int .i64 hh) 19 #[ptr gx, .int .i64 tk1, .int .i64 ky1] rfl (fun x => by kernel_rfl) (fun x => HRH.out _ (HG7.out.trans (hX x))) ?_
            intro K hK; go_simp; refine hK _ ?_; clear hK K
            iterate 2 (refine still_step rfl (fun K hK => ?_); go_simp; refine hK _ ?_; clear hK K)
            refine still_nil ?_
            clear hX hne d1 d2
            intro w9 hw9
            have HW9 := Hid.mk' (HG46.out.trans (HG7.out.trans hw9))
            clear hw9
            go_wp2
            refine ⟨⟨k + 1, by omega, by simp, HW9.out⟩, ?_⟩
            show i + 1 - ((k : Int) + 1).toNat < i + 1 - ((k : Int)).toNat
            omega
          · have HLI := Hid.mk' (H4.out.then HG4.out)
            go_wp2
            refine ⟨⟨i + 1, by have := HLT.out; omega, by have := HLT.out; omega, by simp, s4, x4, HLI.out, HS4.out⟩, ?_⟩
            show l - ((i : Int) + 1).toNat < l - ((i : Int)).toNat
            have := HLT.out
            omega
    · have HAW := Hid.mk' (awake_any wr)
      have HG := Hid.mk' hL.grow
      clear hL hs
      rcases (by omega : ¬ (i : Int) < (l : Int) ∨ ((i : Int) < (l : Int) ∧ ¬ (i : Int) < 120)) with h1 | ⟨h1, h2⟩
      all_goals
        clear hlt
        go_wp2_with fail
        refine Calls.mono HAW.out ?_
        rintro e w7 ⟨rfl, h7⟩
        go_wp2
        go_ret
        exact ⟨rfl, (HG.out.trans h7).below (Nat.le_refl _) (fun _ _ h => h)⟩
set_option maxRecDepth 100000 in
theorem latchPlays_lifted (os : Os) (started : os.Started) (H : Type) (enc : TypeId × Value → H) :
    ReturnsInHanded {} Try.checked os 3 .any (Rows.latchPlaysSpec.pre6 enc Try.prog Try.f3 Rows.latchPlaysRow.domain false) (Rows.latchPlaysSpec.post enc Try.prog Try.f3 false true false false) := by
  refine returnsInHanded_of_change_sized (C := Try.checked) (by kernel_rfl) started (by kernel_rfl) Try.func3
    (ChangeSpec.witness6 (enc := enc) (C := Try.checked) false ⟨#[], #[.slice none 0 0], []⟩ 8 (by kernel_rfl) (by kernel_rfl) (by kernel_rfl) (by kernel_rfl)) ?_
  intro W base args ds gs before hval0 hW hcnd hsz0 _
  have hsz : (DataW.weightsEach Try.prog (Try.f3.params.toList ++ Rows.latchPlaysSpec.plain.varTypes Try.prog) (ds ++ gs)).all (· ≤ reachBytes) = true := hsz0
  clear hsz0
  have hval : ∀ (j : Nat) t v, Try.f3.params[j]? = some t → args[j]? = some v → Value.okWide Try.prog W .any base t v := hval0
  have hW' := hW
  obtain ⟨p, q, hA0, hV, rfl, hfz, hnd⟩ := hW
  have hA : DataW.TrodAll enc Try.prog W 0 (fun _ => true) true Try.f3.params.toList args.toList ds p := hA0
  rw [Try.params3] at hA hval hsz
  obtain ⟨v0, vs0, d0, ds0, p0, q0, hargs, rfl, rfl, h0, r0⟩ := trodAll_cons hA
  obtain ⟨rfl, rfl, rfl⟩ := trodAll_nil r0
  obtain rfl : args = #[v0] := by cases args; simp_all
  obtain ⟨rfl, rfl⟩ := trodVars_none hV
  have lt0 : ∀ x ∈ p0, x.block < W.heap.size := by obtain ⟨m, hm⟩ := h0; exact DataW.trod_lt m _ _ _ hm
  obtain ⟨n0, z0, w0⟩ := view_lacts (hval 0 22 v0 rfl rfl) h0 lt0 hsz (j := 0) rfl rfl
  clear hA0 hval0
  refine (latchPlays_walk v0 n0 z0 W w0).mono fun e W' ⟨he, bel⟩ => ?_
  subst he
  exact ⟨_, rfl, _, _, _, [], _, [], hW', trodAll_mk1 (shut_bool Try.underlying4 _), (trodAll_cons_mk (Below.trod (by kernel_rfl) (by kernel_rfl) (of_decide_eq_true (by kernel_rfl)) h0 bel lt0) trodAll_mk0), rfl, bel.frame _, fun h => by cases h⟩

theorem latchPlays_holds : Rows.LatchPlaysSaid :=
  OpenClaim.holds_of_wide 3 Try.f3 rfl rfl rfl rfl rfl rfl rfl ⟨rfl, rfl, rfl, rfl, rfl⟩ rfl rfl rfl rfl rfl (by kernel_rfl) Try.func3 (by kernel_rfl)
    (of_decide_eq_true (by kernel_rfl)) (by unfold Func.isWrapper; first | (rw [if_pos (by decide +kernel)]; kernel_rfl) | (rw [if_neg (by decide +kernel)]; exact ⟨rfl, rfl⟩))
    (fun os started H enc _ => latchPlays_lifted os started H enc)
#print axioms latchPlays_holds
end Go.Proofs.Ytgldkckhliklhaa
