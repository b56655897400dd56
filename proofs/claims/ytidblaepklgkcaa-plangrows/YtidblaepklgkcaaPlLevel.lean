/- The reference's Level. -/
import Derived.Test.YtidblaepklgkcaaPlAwake
namespace Go.Proofs.Ytidblaepklgkcaa
open Go.RowKit

def levGo : Int → Int → List Int → Int × Int
  | _, _, [] => (-1, 0)
  | i, a, x :: l => if a < 0 then (-1, 0) else if a < x then (i, a) else levGo (i + 1) (a - x) l
theorem levGo_cons (i a x : Int) (l : List Int) : levGo i a (x :: l) = if a < 0 then (-1, 0) else if a < x then (i, a) else levGo (i + 1) (a - x) l := rfl
def Pn.all (p : Pn) : List Int := p.pages :: p.counters :: p.levels
def Pn.lev (p : Pn) (b : Int) : Int × Int := levGo 0 b p.all
theorem levGo_neg {i a : Int} {l : List Int} (h : a < 0) : levGo i a l = (-1, 0) := by
  cases l with
  | nil => rfl
  | cons x l => rw [levGo_cons, if_pos h]
set_option maxRecDepth 100000 in
set_option maxHeartbeats 2000000 in
theorem rlevel_any (w : World) (p : Pn) (v : Value) (b : Int) (hb : i64 b) (hv : Nums w v p.levels) (hlen : p.levels.length ≤ 1000) (hp : ∀ x ∈ p.all, 0 ≤ x ∧ x ≤ 1000000) : Calls Try.prog 41 #[pval p v, .int .i64 b] w fun e w' => e = .returned (.tuple #[.int .i64 (p.lev b).1, .int .i64 (p.lev b).2]) ∧ Grow w w' := by
  obtain ⟨W, gp, hbx⟩ := box_pl w p v
  have HW := Hid.mk' hbx.ew
  have HGP := Hid.mk' hbx.eg
  have HG := Hid.mk' hbx.grow
  have c0 : W.cell? ⟨gp, 0, none⟩ = some (.int .i64 p.pages) := hbx.blk.cell 0
  have c2 : W.cell? ⟨gp, 2, none⟩ = some (.int .i64 p.counters) := hbx.blk.cell 2
  have HBX := Hid.mk' hbx
  have HV := Hid.mk' hv
  have HLN := Hid.mk' hlen
  have HP := Hid.mk' hp
  unfold Pn.lev
  obtain ⟨al, hal⟩ : ∃ al, al = p.all := ⟨_, rfl⟩
  rw [← hal] at HP ⊢
  obtain ⟨q0, r0⟩ : ∃ q, q = p.pages := ⟨_, rfl⟩
  obtain ⟨q2, r2⟩ : ∃ q, q = p.counters := ⟨_, rfl⟩
  rw [← r0] at c0
  rw [← r2] at c2
  have HAL : Hid (al = [q0, q2] ++ p.levels) := Hid.mk' (by rw [hal, r0, r2]; rfl)
  obtain ⟨n, hn⟩ : ∃ n, n = al.length := ⟨_, rfl⟩
  have HN := Hid.mk' hn
  have hnb : n ≤ 1002 := by rw [hn, hal]; unfold Pn.all; simp; omega
  have HNL : Hid (n = 2 + p.levels.length) := Hid.mk' (by rw [hn, hal]; unfold Pn.all; simp; omega)
  have hni : (n : Int) ≤ 1002 := by omega
  unfold pval
  obtain ⟨N, hN⟩ : ∃ N, N = (pcells p v).toArray := ⟨_, rfl⟩
  rw [← hN] at HW ⊢
  have hb1 := hb.1
  have hb2 := hb.2
  obtain ⟨W1, hW1⟩ : ∃ W1, W1 = W.alloc (.cells #[.int .i64 q0, .int .i64 q2] 3) := ⟨_, rfl⟩
  have HG1 : Hid (Grow W W1) := Hid.mk' (by rw [hW1]; exact (But.refl _ W).alloc _)
  have HBL : Hid (Blk W1 W.heap.size 3 (numv [q0, q2])) := Hid.mk' (by rw [hW1]; exact Blk.new (L := numv [q0, q2]) rfl)
  have HW1 := Hid.mk' hW1
  clear hbx hv hlen hp hal r0 r2 hn hN hb hW1 hnb
  go_enter Try.func41, Try.ntmps41
  go_upto_region 1 with fail
  rw [← HW.out, ← HGP.out]
  clear HW HGP
  go_upto_region 4 with (first
    | (refine wpList_someH rfl (exec_append (v := noS) (n := 0) (xs := []) (news := numv [q0, q2]) Try.underlying34 infNum rfl (by decide) rfl rfl (World.ownsRow_nil _ _ _ _) rfl rfl (fun j u hj => by first | exact HBL.out.cells0 j u hj | (rw [HW1.out] at HBL; exact HBL.out.cells0 j u hj)) (fun u hu => by simp only [numv, List.map_cons, List.map_nil, List.mem_cons, List.not_mem_nil, or_false] at hu; rcases hu with rfl | rfl <;> rfl) (by decide) (by decide)) ?_; intro v4 w4 hap)
    | fail)
  have hap' : Appd (W.alloc (.cells #[.int .i64 q0, .int .i64 q2] 3)) w4 3 1 noS v4 2 (numv [q0, q2]) := hap
  rw [← HW1.out] at hap'
  have hg4 : Grow W w4 := HG1.out.then hap'.but (fun _ _ e => by cases e)
  obtain ⟨va, vc, hve⟩ := own_sl hap'.own
  subst hve
  have HR4 := Hid.mk' hap'.own
  have HG4 := Hid.mk' hg4
  have HNB : Hid (∀ k, (Value.slice va 2 vc).ownBlock = some k → W.heap.size ≤ k) := fun k hk => by
    rcases hap'.at' with e | e
    · rw [e] at hk; cases hk
    · rw [e] at hk
      have := Option.some.inj hk
      have := HG1.out.size
      omega
  have c3 : w4.cell? ⟨gp, 3, none⟩ = some v := (HBX.out.blk.but hg4 (fun h => h)).cell 3
  clear hap hap' hg4 HG1 HBL HW1 c0 c2
  obtain ⟨la, lc, hle⟩ := HV.out.len
  have HNV := Hid.mk' ((HV.out.grow HG.out).grow HG4.out)
  generalize hll : p.levels.length = ln at hle
  have HLL := Hid.mk' hll
  subst hle
  clear hll
  go_upto_region 5 with (first
    | (refine wpList_someH rfl (exec_appendN (v := .slice va 2 vc) (u := .slice la ln lc) (n := 2) (xs := numv [q0, q2]) (ks := p.levels) rfl rfl HR4.out rfl HNV.out (by have := HLN.out; omega)) ?_; intro v5 w5 hap)
    | fail)
  have hap' : Appd w4 w5 3 1 (.slice va 2 vc) v5 (2 + p.levels.length) (numv [q0, q2] ++ numv p.levels) := hap
  rw [show numv [q0, q2] ++ numv p.levels = numv al by rw [HAL.out]; simp [numv], ← HNL.out] at hap'
  have HG5 : Hid (Grow w w5) := Hid.mk' ((HG.out.trans HG4.out).then hap'.but (fun b hb e => by have := HNB.out b e; have := HG.out.size; omega))
  obtain ⟨ra, rc, hre⟩ := own_sl hap'.own
  have hrow := hap'.own
  rw [HN.out] at hrow
  have HNR := Hid.mk' (Nums.ofRow hrow (fun x hx => by have := HP.out x hx; omega) (by rw [← HN.out]; omega))
  subst hre
  clear hap hap' hrow HR4 HNB c3 HNV HLL
  go_wp2
  go_loopw [6, 8] (fun av iv wr => ∃ (i : Nat) (a : Int), i ≤ n ∧ iv = .int .i64 i ∧ av = .int .i64 a ∧ (0 ≤ a ∨ i = 0 ∧ a = b) ∧ a ≤ 9223372036854775807 ∧ levGo 0 b al = levGo i a (al.drop i) ∧ wr = w5) (fun _ iv _ => n - (intOf iv).toNat)
  case atStart => exact ⟨0, b, Nat.zero_le _, rfl, rfl, .inr ⟨rfl, rfl⟩, hb2, rfl, rfl⟩
  case round =>
    obtain ⟨i, a, hin, rfl, rfl, ha, ha2, hle, rfl⟩ := hrel
    have HLE := Hid.mk' hle
    have HA := Hid.mk' ha
    clear hle ha
    by_cases hlt : i < n
    · have hlti : (i : Int) < (n : Int) := by omega
      by_cases h0 : a < 0
      · have h0i : ¬ 0 ≤ a := by omega
        have HE : Hid (levGo 0 b al = (-1, 0)) := Hid.mk' (by rw [HLE.out, levGo_neg h0])
        clear h0 hin hlt
        go_wp2
        exact bodyPost_ret (results_tmp2 rfl _ _ _) rfl ⟨by rw [HE.out]; rfl, HG5.out⟩
      · have h0i : 0 ≤ a := by omega
        obtain ⟨bb, o1, k1, e1, -, -, hc1⟩ := HNR.out.at (by have := HN.out; omega)
        rw [← HN.out] at e1
        simp only [Value.slice.injEq] at e1
        obtain ⟨rfl, -, rfl⟩ := e1
        obtain ⟨u, hu⟩ : ∃ u, u = al.getD i 0 := ⟨_, rfl⟩
        have cu := hc1 i (by have := HN.out; omega)
        have h9 : i < al.length := by have := HN.out; omega
        have hdr : al.drop i = u :: al.drop (i + 1) := by
          rw [List.drop_eq_getElem_cons h9, hu, List.getD_eq_getElem?_getD, List.getElem?_eq_getElem h9]; rfl
        have hub : 0 ≤ u ∧ u ≤ 1000000 := HP.out u (by rw [hu, List.getD_eq_getElem?_getD, List.getElem?_eq_getElem h9]; exact List.getElem_mem h9)
        have hu0 := hub.1
        have hu1 := hub.2
        rw [← hu] at cu
        rw [hdr, levGo_cons, if_neg h0] at HLE
        have HLT := Hid.mk' hlt
        clear hc1 hu h9 hdr hub h0 hin hlt
        by_cases hau : a < u
        · rw [if_pos hau] at HLE
          go_wp2
          exact bodyPost_ret (results_tmp2 rfl _ _ _) rfl ⟨by rw [HLE.out]; rfl, HG5.out⟩
        · rw [if_neg hau] at HLE
          go_wp2
          exact ⟨⟨i + 1, a - u, by have := HLT.out; omega, by go_num, rfl, .inl (by omega), by omega, by rw [HLE.out]; rfl, trivial⟩, by simp [intOf]; have := HLT.out; omega⟩
    · have hlti : ¬ (i : Int) < (n : Int) := by omega
      have HE : Hid (levGo 0 b al = (-1, 0)) := Hid.mk' (by rw [HLE.out, List.drop_eq_nil_iff.2 (by have := HN.out; omega)]; rfl)
      clear hin hlt
      go_wp2
      exact bodyPost_ret (results_tmp2 rfl _ _ _) rfl ⟨by rw [HE.out]; rfl, HG5.out⟩
end Go.Proofs.Ytidblaepklgkcaa
