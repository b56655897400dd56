/- The program's Write. -/
import Derived.Test.YthpgjbblbhjndaaDoorShaMem
namespace Go.Proofs.YthpgjbblbhjndaaDoor
open Go.RowKit

theorem write_nil {w : World} {v : Value} :
    Calls Tryd.prog 42 #[.pointer none, v] w fun e w' => e = .returned (.tuple #[]) ∧ w' = w := by
  go_enter Tryd.func42, Tryd.ntmps42
  go_wp2
  refine bodyPost_ret (v := .tuple #[]) (by simp [results, Tryd.f42]) rfl ⟨rfl, rfl⟩

/-- The first state, where the program keeps it. -/
def Hw (w : World) : Prop := ∀ i, i < 8 → w.cell? ⟨0, i, none⟩ = some (.int .u32 (nt (hws.getD i 0) : Int))
theorem Hw.lt {w : World} (h : Hw w) : 0 < w.heap.size := World.block_lt_of_cell? _ _ (h 0 (by decide))
theorem Hw.but {R : Nat → Prop} {w w' : World} (h : Hw w) (k : But R w w') (hr : ¬ R 0) : Hw w' := fun i hi =>
  (World.cell?_of_block (k.block 0 h.lt hr)).trans (h i hi)
theorem Hw.cells {w : World} (h : Hw w) : ∀ j v, (u32s hws)[j]? = some v → w.cell? ((⟨0, 0, none⟩ : Addr).add j) = some v := by
  intro j v hv
  have hj : j < 8 := by have := (List.getElem?_eq_some_iff.1 hv).1; simpa [u32s, hws] using this
  have e : (⟨0, 0, none⟩ : Addr).add j = ⟨0, j, none⟩ := by unfold Addr.add; split <;> simp_all
  rw [e, h j hj, ← hv]
  simp [u32s, List.getElem?_eq_getElem (show j < hws.length by simpa [hws] using hj)]

set_option maxRecDepth 100000 in
set_option maxHeartbeats 4000000 in
theorem write_any {w : World} {v : Value} {g : Nat} {all xs : List Nat} (hv : Bs w v xs) (hs : Sm w g all) (hk : Kw w) (hh : Hw w) (hg : 2 < g) (hne : 0 < xs.length → v.ownBlock ≠ some g) (hlen : all.length + xs.length ≤ 1073741824) :
    Calls Tryd.prog 42 #[.pointer (some ⟨g, 0, none⟩), v] w fun e w' => e = .returned (.tuple #[]) ∧ Sm w' g (all ++ xs) ∧ But (· = g) w w' := by
  have hi43 : (Tryd.prog.info? 75).map (·.size) = some 8 := by kernel_rfl
  have hcl := hs.len
  obtain ⟨l, z, hb, hl8, hz64, hzb, hho⟩ := hs
  have HB := Hid.mk' hb
  have HH := Hid.mk' hh
  have HK := Hid.mk' hk
  have HV := Hid.mk' hv
  have HL8 := Hid.mk' hl8
  have HZ64 := Hid.mk' hz64
  have HZB := Hid.mk' hzb
  have HNE := Hid.mk' hne
  have HN := Hid.mk' hlen
  have HG2 := Hid.mk' hg
  obtain ⟨ao, cap, rfl, hnone, hcells⟩ := hv.gen
  clear hb hh hk hv hl8 hz64 hzb hne hnone hcells
  have hgl := HB.out.lt
  go_enter Tryd.func42, Tryd.ntmps42
  by_cases h0 : all.length = 0
  case' pos =>
    have h0i : ((all.length : Nat) : Int) = 0 := by omega
    have hall : all = [] := List.eq_nil_of_length_eq_zero h0
    have hB1 := HB.out
    rw [h0] at hB1
    have HB1 := Hid.mk' hB1
    clear hB1
    have hstart : Hid (∀ (wx : World) (ops : Array Oper) (rest : List Oper) (o : Oper) (a : Act) (Q : Exit → Act → World → Prop) (x : Operand), wx = w → o.guard = none → o.op = .load 75 x → a.eval x = .pointer (some ⟨0, 0, none⟩) → wpList Tryd.prog ops Q rest (a.put o.dst (.agg (u32s hws).toArray)) wx → wpList Tryd.prog ops Q (o :: rest) a wx) := by
      intro wx ops rest o a Q x e h1 h2 h3 h4
      subst e
      exact wpList_load_cells h1 75 x h2 _ h3 (u32s hws) _ HH.out.cells Tryd.underlying75 rfl (by rw [hi43]; rfl) h4
    have hput : Hid (∀ (ops : Array Oper) (rest : List Oper) (o : Oper) (a : Act) (Q : Exit → Act → World → Prop) (x y : Operand), o.guard = none → o.op = .store 75 x y → a.eval x = .pointer (some ⟨g, 0, none⟩) → a.eval y = .agg (u32s hws).toArray → (∀ w', Blk w' g 84 (u32s hws ++ (u8s z ++ [.int .i64 (0 : Nat)])) → But (· = g) w w' → wpList Tryd.prog ops Q rest (a.put o.dst undef) w') → wpList Tryd.prog ops Q (o :: rest) a w) := by
      intro ops rest o a Q x y h1 h2 h3 h4 h5
      refine wpList_store_at h1 75 x y h2 g 0 (u32s hws) h3 h4 84 [] (u32s l) (u8s z ++ [.int .i64 (0 : Nat)]) (by simpa using HB1.out) rfl (by rw [List.length_map, HL8.out]; rfl) (by rw [hi43]; rfl) (u32s_mem_one _) ?_
      intro w' hb' hb2
      exact h5 w' (by simpa using hb') hb2
    obtain ⟨C, hC⟩ : ∃ C, C = (u32s hws).toArray := ⟨_, rfl⟩
    rw [← hC] at hstart hput
    clear hC
    go_wp2_with (first
      | (refine hstart.out _ _ _ _ _ _ _ rfl rfl rfl (by exact rfl) ?_)
      | (refine hput.out _ _ _ _ _ _ _ rfl rfl rfl (by exact rfl) ?_; intro w1 hb1 hbut1))
    have HL1 : Hid (∃ l z, Blk w1 g 84 (u32s l ++ (u8s z ++ [.int .i64 (all.length : Nat)])) ∧ l.length = 8 ∧ z.length = 64 ∧ (∀ x ∈ z, x < 256) ∧ Holds all l z) :=
      ⟨hws, z, by rw [h0]; exact hb1, rfl, HZ64.out, HZB.out, by rw [hall]; exact Holds.nil z⟩
    have HBW := Hid.mk' hbut1
    clear hb1 hbut1 hstart hput h0i hall hho h0
    simp only [Act.put]
  case' neg =>
    have h0i : (((all.length : Nat) : Int) == 0) = false := by rw [beq_eq_false_iff_ne]; omega
    have HL1 : Hid (∃ l z, Blk w g 84 (u32s l ++ (u8s z ++ [.int .i64 (all.length : Nat)])) ∧ l.length = 8 ∧ z.length = 64 ∧ (∀ x ∈ z, x < 256) ∧ Holds all l z) :=
      ⟨l, z, HB.out, HL8.out, HZ64.out, HZB.out, hho (fun e => h0 (by rw [e]; rfl))⟩
    clear hho
    go_wp2
    obtain ⟨w1, hw1⟩ : ∃ w1, w1 = w := ⟨_, rfl⟩
    rw [← hw1]
    have HBW : Hid (But (· = g) w w1) := by rw [hw1]; exact But.refl _ _
    rw [← hw1] at HL1
    clear hw1 h0i h0 hcl
  all_goals
    go_loopw [1] (fun p wr => ∃ (k : Nat) (l : List (BitVec 32)) (z : List Nat), k ≤ xs.length ∧ Blk wr g 84 (u32s l ++ (u8s z ++ [.int .i64 ((all.length + k : Nat) : Int)])) ∧ l.length = 8 ∧ z.length = 64 ∧ (∀ x ∈ z, x < 256) ∧ Holds (all ++ xs.take k) l z ∧ Bs wr p (xs.drop k) ∧ (k < xs.length → p.ownBlock ≠ some g) ∧ But (· = g) w wr) (fun p _ => match p with | .slice _ m _ => m | _ => 0)
    case atStart =>
      obtain ⟨l, z, h1, h2, h3, h4, h5⟩ := HL1.out
      refine ⟨0, l, z, Nat.zero_le _, h1, h2, h3, h4, by simpa using h5, ?_, HNE.out, HBW.out⟩
      by_cases hx0 : 0 < xs.length
      · exact HV.out.but HBW.out (fun j e _ => fun e2 => HNE.out hx0 (by rw [e, e2]))
      · have hxn : xs = [] := by cases xs; rfl; simp at hx0
        subst hxn
        obtain ⟨a1, a2, a3 | ⟨a4, _⟩⟩ := HV.out
        · exact ⟨a1, a2, .inl a3⟩
        · simp at a4
    case round =>
      obtain ⟨k, l1, z1, hkx, hblk, hl1, hz1, hzb1, hhold, hbs, hown, hbut⟩ := hrel
      have HBL := Hid.mk' hblk
      have HHO := Hid.mk' hhold
      have HBS := Hid.mk' hbs
      have HL18 := Hid.mk' hl1
      have HZ1 := Hid.mk' hz1
      have HZB1 := Hid.mk' hzb1
      have HBU := Hid.mk' hbut
      clear hblk hhold hl1 hz1 hzb1 hbut
      by_cases hlt : k < xs.length
      · have hob := hown hlt
        obtain ⟨_, _, ⟨hnil, _⟩ | ⟨hm0, b, so, cap1, rfl, hcap1, hbl, hcell⟩⟩ := hbs
        · have := congrArg List.length hnil; simp at this; omega
        have hbg : b ≠ g := fun e => hob (by rw [e]; rfl)
        obtain ⟨N, hN⟩ : ∃ N, N = all.length + k := ⟨_, rfl⟩
        obtain ⟨q, hq⟩ : ∃ q, q = N % 64 := ⟨_, rfl⟩
        obtain ⟨m, hm⟩ : ∃ m, m = (xs.drop k).length := ⟨_, rfl⟩
        obtain ⟨n, hn⟩ : ∃ n, n = Nat.min (xs.drop k).length (64 - q) := ⟨_, rfl⟩
        have hn1 : n ≤ m := by rw [hn, hm]; exact Nat.min_le_left _ _
        have hn2 : n ≤ 64 - q := by rw [hn]; exact Nat.min_le_right _ _
        have hn3 : n = m ∨ n = 64 - q := by rw [hn, hm]; simp only [Nat.min_def]; split <;> omega
        have hq64 : q < 64 := by omega
        have hn0 : 0 < n := by omega
        have hNle : N ≤ 1073741824 := by have := HN.out; omega
        have hmk : m = xs.length - k := by rw [hm]; simp
        have hmle : m ≤ 1073741824 := by have := HN.out; omega
        rw [← hN] at HBL
        have hcut := cut64 g 8 q (q : Int) rfl hq64
        have hlencell : wr.cell? ⟨g, 72, none⟩ = some (.int .i64 (N : Int)) := by
          rw [HBL.out.cell, List.getElem?_append_right (by simp [HL18.out]), List.getElem?_append_right (by simp [HL18.out, u8s, HZ1.out])]
          simp [HL18.out, u8s, HZ1.out]
        have hsplit : u32s l1 ++ (u8s z1 ++ [Value.int .i64 (N : Int)]) = (u32s l1 ++ u8s (z1.take q)) ++ u8s ((z1.drop q).take n) ++ (u8s (z1.drop (q + n)) ++ [Value.int .i64 (N : Int)]) := by
          have e : z1 = z1.take q ++ ((z1.drop q).take n ++ z1.drop (q + n)) := by
            rw [← List.drop_drop, List.take_append_drop, List.take_append_drop]
          conv => lhs; rw [e]
          simp [List.append_assoc]
        have hB := HBL.out
        rw [hsplit] at hB
        have hcp : ∀ d : Nat, (Builtin.copy_ #[31, 31] 3 #[.slice (some ⟨g, 8 + q, none⟩) (64 - q) (64 - q), .slice (some ⟨b, so, none⟩) (xs.drop k).length cap1]).run Tryd.prog (wr.drewN d) = .ok (.int .i64 (n : Int)) ((wr.setRow g ((u32s l1 ++ u8s (z1.take q)) ++ u8s ((xs.drop k).take n) ++ (u8s (z1.drop (q + n)) ++ [Value.int .i64 (N : Int)])).toArray).drewN d) := by
          intro d
          exact run_copy_blk (w := wr.drewN d) 3 hB (by simp [HL18.out, u8s, HZ1.out]; omega) (by simp [u8s, HZ1.out]; omega) hn (fun i hi => hcell i hi)
        have hcp0 := hcp 0
        have hcp1 := hcp 1
        clear hcp
        have hrem : (N : Int) % 64 = (q : Int) := by omega
        rw [← hm] at hcp0 hcp1 ⊢
        have hmi : (0 : Int) < (m : Int) := by omega
        have HX0 := Hid.mk' hB
        obtain ⟨R, hR⟩ : ∃ R, R = ((u32s l1 ++ u8s (z1.take q)) ++ u8s ((xs.drop k).take n) ++ (u8s (z1.drop (q + n)) ++ [Value.int .i64 (N : Int)])).toArray := ⟨_, rfl⟩
        rw [← hR] at hcp0 hcp1
        have HR := Hid.mk' hR
        clear hsplit hB hcell hR hown hob hn1 hn2 hn3 hmk hcap1
        have hcp0' : (Builtin.copy_ #[31, 31] 3 #[.slice (some ⟨g, 8 + q, none⟩) (64 - q) (64 - q), .slice (some ⟨b, so, none⟩) m cap1]).run Tryd.prog wr = .ok (.int .i64 (n : Int)) (wr.setRow g R) := hcp0
        have hcp1' : (Builtin.copy_ #[31, 31] 3 #[.slice (some ⟨g, 8 + q, none⟩) (64 - q) (64 - q), .slice (some ⟨b, so, none⟩) m cap1]).run Tryd.prog wr.drew = .ok (.int .i64 (n : Int)) (wr.setRow g R).drew := hcp1
        clear hcp0 hcp1
        have HFA := Hid.mk' (And.intro hN (And.intro hq (And.intro hm hn)))
        clear hN hq hm hn
        go_wp2
        go_region
        obtain ⟨w2, hw2⟩ : ∃ w2, w2 = (wr.setRow g R).drew := ⟨_, rfl⟩
        rw [← hw2]
        obtain ⟨hN, hq, hm, hn⟩ := HFA.out
        have hmk : m = xs.length - k := by rw [hm]; simp
        have hn1 : n ≤ m := by rw [hn, hm]; exact Nat.min_le_left _ _
        have hn2 : n ≤ 64 - q := by rw [hn]; exact Nat.min_le_right _ _
        have hcap1 : m ≤ cap1 := by
          obtain ⟨_, _, ⟨e, _⟩ | ⟨_, b', so', cap', e, hcc, _⟩⟩ := HBS.out
          · rw [hm, e]; exact Nat.zero_le _
          · simp only [Value.slice.injEq] at e
            rw [hm, e.2.2]; exact hcc
        have hBS := HBS.out
        rw [← hm] at hBS
        obtain ⟨p', hsl, hbs', hown', so', cap', hp'⟩ := hBS.cut hm.symm (by omega) hn1 hcap1
        obtain ⟨z2, hz2⟩ : ∃ z2, z2 = z1.take q ++ (xs.drop k).take n ++ z1.drop (q + n) := ⟨_, rfl⟩
        have hb2 : Blk w2 g 84 (u32s l1 ++ (u8s z2 ++ [Value.int .i64 (N : Int)])) := by
          have h := HBL.out.row ((u32s l1 ++ u8s (z1.take q)) ++ u8s ((xs.drop k).take n) ++ (u8s (z1.drop (q + n)) ++ [Value.int .i64 (N : Int)]))
          rw [← HR.out] at h
          rw [hw2, hz2]
          have e : u32s l1 ++ (u8s (z1.take q ++ (xs.drop k).take n ++ z1.drop (q + n)) ++ [Value.int .i64 (N : Int)]) = (u32s l1 ++ u8s (z1.take q)) ++ u8s ((xs.drop k).take n) ++ (u8s (z1.drop (q + n)) ++ [Value.int .i64 (N : Int)]) := by simp [List.append_assoc]
          rw [e]
          rw [HR.out] at h ⊢
          exact h
        have hbut2 : But (· = g) wr w2 := by rw [hw2]; exact ((But.refl (· = g) wr).setRow (g := g) (fun _ => rfl) R).drew
        have hz2l : z2.length = 64 := by rw [hz2]; simp [HZ1.out]; omega
        have hz2b : ∀ x ∈ z2, x < 256 := by
          intro x hx
          rw [hz2] at hx
          simp only [List.mem_append] at hx
          rcases hx with (hx | hx) | hx
          · exact HZB1.out x (List.mem_of_mem_take hx)
          · exact HBS.out.1 x (List.mem_of_mem_take hx)
          · exact HZB1.out x (List.mem_of_mem_drop hx)
        have hc2 : w2.cell? ⟨g, 72, none⟩ = some (.int .i64 (N : Int)) := by
          rw [hb2.cell, List.getElem?_append_right (by simp [HL18.out]), List.getElem?_append_right (by simp [HL18.out, u8s, hz2l])]
          simp [HL18.out, u8s, hz2l]
        have hf2 := hb2.free 72
        have hb3 : Blk (w2.setCell ⟨g, 72, none⟩ (.int .i64 ((N : Int) + (n : Int)))) g 84 (u32s l1 ++ (u8s z2 ++ [Value.int .i64 ((N + n : Nat) : Int)])) := by
          have h := hb2.set 72 (.int .i64 ((N : Int) + (n : Int)))
          have e : (u32s l1 ++ (u8s z2 ++ [Value.int .i64 (N : Int)])).set 72 (.int .i64 ((N : Int) + (n : Int))) = u32s l1 ++ (u8s z2 ++ [Value.int .i64 ((N + n : Nat) : Int)]) := by
            rw [List.set_append_right _ _ (by simp [HL18.out]), List.set_append_right _ _ (by simp [HL18.out, u8s, hz2l])]
            simp [HL18.out, u8s, hz2l]
          rw [e] at h
          exact h
        have HB3 := Hid.mk' hb3
        have hbut3 : But (· = g) wr (w2.setCell ⟨g, 72, none⟩ (.int .i64 ((N : Int) + (n : Int)))) := hbut2.setCell (fun _ => rfl) _
        have HBU3 := Hid.mk' hbut3
        have HBS' := Hid.mk' hbs'
        have HOW' := Hid.mk' hown'
        have HP' := Hid.mk' hp'
        have hNn : ((N : Int) + (n : Int)) ≤ 1073741824 := by have := HN.out; omega
        have hall' : (all ++ xs.take k).length = N := by simp; omega
        have htk : xs.take (k + n) = xs.take k ++ (xs.drop k).take n := List.take_add
        have hhk := HHO.out
        have hpart := fun h => hhk.part (ys := xs.drop k) n HZ1.out (by omega) h
        have hfull := fun h => hhk.full (ys := xs.drop k) n HZ1.out (by omega) h
        rw [hall', ← hq, ← hz2, List.append_assoc, ← htk] at hpart hfull
        have HPA := Hid.mk' hpart
        have HFU := Hid.mk' hfull
        have HZ2L := Hid.mk' hz2l
        have HZ2B := Hid.mk' hz2b
        have hsz3 : k + n ≤ xs.length ∧ m - n = xs.length - (k + n) := by omega
        have HSZ := Hid.mk' hsz3
        have HDD : Hid ((xs.drop k).drop n = xs.drop (k + n)) := List.drop_drop
        have HNN : Hid (N + n = all.length + (k + n)) := by show _ = _; omega
        have HMM : Hid (m - n < m) := by show _ < _; omega
        have HQN : Hid ((N + n) % 64 = (q + n) % 64 ∧ q + n ≤ 64 ∧ 0 < n) := by refine ⟨?_, ?_, ?_⟩ <;> omega
        clear hb2 hbut2 hb3 hbut3 hbs' hown' hp' hcp0' hcp1' HR hw2 hz2 hz2l hz2b hpart hfull hhk hall' htk hsz3 hlencell hcut hBS
        clear hN hq hm hn hn1 hn2 hcap1 hrem hmk
        by_cases hmod : (N + n) % 64 = 0
        case' pos =>
          have hmi2 : ((N : Int) + (n : Int)) % 64 = 0 := by omega
          have HM : Hid (∀ wx : World, But (· = g) wr wx ∧ wx.heap = (w2.setCell ⟨g, 72, none⟩ (.int .i64 ((N : Int) + (n : Int)))).heap → Calls Tryd.prog 45 #[.pointer (some ⟨g, 0, none⟩), .pointer (some ⟨g, 8, none⟩)] wx fun e w' => e = .returned (.tuple #[]) ∧ Blk w' g 84 (u32s (comp (blkw z2 0) l1) ++ (u8s z2 ++ [Value.int .i64 ((N + n : Nat) : Int)])) ∧ But (· = g) wr w') := by
            intro wx hx
            have hsq : Sq wx g 84 l1 (u8s z2 ++ [Value.int .i64 ((N + n : Nat) : Int)]) := by
              show wx.heap[g]? = _; rw [hx.2]; exact HB3.out
            have hkw : Kw wx := HK.out.but (HBU.out.trans hx.1) (by have := HG2.out; omega)
            refine (mix_any hsq HL18.out HZ2L.out HZ2B.out hkw).mono ?_
            rintro e w' ⟨rfl, h1, h2⟩
            exact ⟨rfl, h1, hx.1.trans h2⟩
          go_wp2
          go_region_with (go_at_call 45; refine Calls.mono (HM.out _ (by first | exact ⟨HBU3.out.drew, rfl⟩ | exact ⟨HBU3.out.drewN, rfl⟩ | exact ⟨HBU3.out, rfl⟩)) ?_; rintro e w4 ⟨rfl, hb4, hbut4⟩)
          go_wp2
          have e1 := HSZ.out
          have e2 := HPA.out
          have e3 := HQN.out
          refine ⟨⟨k + n, comp (blkw z2 0) l1, z2, e1.1, by rw [← HNN.out]; exact hb4, comp_len _ _ HL18.out, HZ2L.out, HZ2B.out, HFU.out (by omega), ?_, ?_, HBU.out.trans hbut4⟩, by rw [HP'.out]; exact HMM.out⟩
          · rw [← HDD.out]
            exact HBS'.out.but hbut4 (fun j hj _ hjg => hbg (by rw [HOW'.out] at hj; cases hj; exact hjg))
          · intro _ h; rw [HOW'.out] at h; cases h; exact hbg rfl
        case' neg =>
          have hmi2 : ¬ ((N : Int) + (n : Int)) % 64 = 0 := by omega
          go_wp2
          have e1 := HSZ.out
          have e2 := HPA.out
          have e3 := HQN.out
          refine ⟨⟨k + n, l1, z2, e1.1, by rw [← HNN.out]; exact HB3.out, HL18.out, HZ2L.out, HZ2B.out, HPA.out (by omega), ?_, ?_, HBU.out.trans HBU3.out⟩, by rw [HP'.out]; exact HMM.out⟩
          · rw [← HDD.out]
            exact HBS'.out.but HBU3.out (fun j hj _ hjg => hbg (by rw [HOW'.out] at hj; cases hj; exact hjg))
          · intro _ h; rw [HOW'.out] at h; cases h; exact hbg rfl
      · have hkl : k = xs.length := by omega
        have hd0 : xs.drop k = [] := by rw [hkl]; simp
        rw [hd0] at hbs
        obtain ⟨ap, cp, hp, _, _⟩ := hbs.gen
        subst hp
        have HKL := Hid.mk' hkl
        clear hkl hbs hown hlt hkx hd0
        go_wp2
        go_end0
        have htk : xs.take k = xs := by rw [HKL.out]; simp
        have hho := HHO.out
        rw [htk] at hho
        refine ⟨rfl, ⟨l1, z1, ?_, HL18.out, HZ1.out, HZB1.out, fun _ => hho⟩, HBU.out⟩
        have e : (all ++ xs).length = all.length + k := by rw [List.length_append, HKL.out]
        rw [e]
        exact HBL.out
end Go.Proofs.YthpgjbblbhjndaaDoor
