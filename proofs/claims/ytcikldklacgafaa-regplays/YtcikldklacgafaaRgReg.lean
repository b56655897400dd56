/- The register: New, Read, Write; with a device and blocks F that are neither's. -/
import Derived.Test.YtcikldklacgafaaRgFollows
namespace Go.Proofs.Ytcikldklacgafaa
open Go.RowKit

def rcells (gd : Nat) (S : Stt) : List Value := .pointer (some ⟨gd, 0, none⟩) :: scells S
structure Rr (F : Nat → Prop) (w0 w : World) (gd gr : Nat) (s : Dev) (S : Stt) : Prop where
  ex : ∃ own, Dv w own gd s ∧ own gr = .none ∧ ∀ b, F b → own b = .none
  fr : ¬ F gr
  fl : ∀ b, F b → b < w0.heap.size
  blk : Blk w gr 57 (rcells gd S)
  ok : S.ok
  but : But (fun b => ¬ F b) w0 w
section
variable {F : Nat → Prop} {w0 w w' : World} {gd gr : Nat} {s s' : Dev} {S T : Stt}
theorem Rr.then (h : Rr F w0 w gd gr s S) (k : Grow w w') : Rr F w0 w' gd gr s S := by
  obtain ⟨own, h1, h2, h3⟩ := h.ex
  exact ⟨⟨own, h1.grow k, h2, h3⟩, h.fr, h.fl, h.blk.but k (fun h => h), h.ok, h.but.trans (k.mono (fun _ _ h => h.elim))⟩
theorem Rr.dev (h : Rr F w0 w gd gr s S) : ∃ own, Dv w own gd s ∧ ∀ s' w', DvTo w own gd s' w' → Rr F w0 w' gd gr s' S := by
  obtain ⟨own, h1, h2, h3⟩ := h.ex
  refine ⟨own, h1, fun s' w' hto => ?_⟩
  obtain ⟨own', f, d⟩ := hto.ex
  refine ⟨⟨own', d, ?_, fun b hb => ?_⟩, h.fr, h.fl, h.blk.but hto.but (fun e => e h2), h.ok, h.but.then hto.but (fun b _ e hf => e (h3 b hf))⟩
  · by_cases hq : own' gr = own gr
    · rw [hq]; exact h2
    · have h5 := f gr hq
      have h6 := h.blk.lt
      omega
  · by_cases hq : own' b = own b
    · rw [hq]; exact h3 b hb
    · have h5 := f b hq
      have h6 := h.fl b hb
      have h7 := h.but.size
      omega
/-- The register's cells are turned. -/
theorem Rr.held (h : Rr F w0 w gd gr s S) (hT : T.ok) (k : But (· = gr) w w') (hb : Blk w' gr 57 (rcells gd T)) : Rr F w0 w' gd gr s T := by
  obtain ⟨own, h1, h2, h3⟩ := h.ex
  exact ⟨⟨own, h1.but k (fun b hb e => hb (by rw [e]; exact h2)), h2, h3⟩, h.fr, h.fl, hb, hT, h.but.then k (fun b _ e hf => h.fr (by rw [← e]; exact hf))⟩
/-- What is new is neither's. -/
theorem Rr.add (h : Rr F w0 w gd gr s S) (k : Grow w w') : Rr (fun b => F b ∨ (w.heap.size ≤ b ∧ b < w'.heap.size)) w' w' gd gr s S := by
  obtain ⟨own, h1, h2, h3⟩ := h.ex
  have h6 := h.blk.lt
  refine ⟨⟨own, h1.grow k, h2, fun b hb => hb.elim (h3 b) (fun hb => h1.top b hb.1)⟩, fun hb => hb.elim h.fr (fun hb => by omega), fun b hb => ?_, h.blk.but k (fun h => h), h.ok, But.refl _ _⟩
  rcases hb with hb | hb
  · have h5 := h.fl b hb
    have h7 := h.but.size
    have h8 := k.size
    omega
  · exact hb.2
theorem Rr.turn (h : Rr F w0 w gd gr s S) (k : But F w w') : Rr F w' w' gd gr s S := by
  obtain ⟨own, h1, h2, h3⟩ := h.ex
  exact ⟨⟨own, h1.but k (fun b hb hf => hb (h3 b hf)), h2, h3⟩, h.fr, fun b hb => Nat.lt_of_lt_of_le (h.fl b hb) (Nat.le_trans h.but.size k.size), h.blk.but k h.fr, h.ok, But.refl _ _⟩
theorem Rr.less {G : Nat → Prop} {v0 : World} (h : Rr F w0 w gd gr s S) (hg : ∀ b, G b → F b) (hl : ∀ b, G b → b < v0.heap.size) (hb : But (fun b => ¬ G b) v0 w) : Rr G v0 w gd gr s S := by
  obtain ⟨own, h1, h2, h3⟩ := h.ex
  exact ⟨⟨own, h1, h2, fun b hb => h3 b (hg b hb)⟩, fun hb => h.fr (hg _ hb), hl, h.blk, h.ok, hb⟩
theorem builtR (p : Option Addr) (w : World) : (Instr.build 57 #[(0, .pointer p)]).run Try.prog w = .ok (.agg (.pointer p :: scells Stt.zero).toArray) w := by
  rw [zeroS]
  exact run_build w _ _ _ (by kernel_rfl)
set_option maxRecDepth 100000 in
theorem regnew_nil (w : World) : Calls Try.prog 14 #[.pointer none] w fun e w' => e = .returned (.tuple #[.pointer none, .int .i64 5]) ∧ w' = w := by
  go_enter Try.func14, Try.ntmps14
  go_wp2
  exact bodyPost_ret (results_tmp2 rfl _ _ _) rfl ⟨rfl, rfl⟩
set_option maxRecDepth 100000 in
theorem regnew_any (gd : Nat) (w : World) : Calls Try.prog 14 #[.pointer (some ⟨gd, 0, none⟩)] w fun e w' => e = .returned (.tuple #[.pointer (some ⟨w.heap.size, 0, none⟩), .int .i64 0]) ∧ Blk w' w.heap.size 57 (rcells gd Stt.zero) ∧ Grow w w' := by
  obtain ⟨Z, hZ⟩ : ∃ Z, Z = (rcells gd Stt.zero).toArray := ⟨_, rfl⟩
  have HBU : Hid ((Instr.build 57 #[(0, .pointer (some ⟨gd, 0, none⟩))]).run Try.prog w = .ok (.agg Z) w) := by show _ = _; rw [hZ]; exact builtR _ w
  have HB : Hid (Blk (w.alloc (.cells Z 57)) w.heap.size 57 (rcells gd Stt.zero)) := by show Blk _ _ _ _; rw [hZ]; exact Blk.new rfl
  have HG : Hid (Grow w (w.alloc (.cells Z 57))) := (But.refl _ w).alloc _
  clear hZ
  go_enter Try.func14, Try.ntmps14
  go_wp2_with (first
    | (refine wpList_build_run rfl _ [_] rfl [(0, .pointer (some ⟨gd, 0, none⟩))] rfl _ HBU.out ?_)
    | fail)
  exact bodyPost_ret (results_tmp2 rfl _ _ _) rfl ⟨rfl, HB.out, HG.out⟩
theorem zeroVS (w : World) : (zeroValue 26).run Try.prog w = .ok (.agg (scells Stt.zero).toArray) w := by rw [zeroS]; kernel_rfl
set_option maxRecDepth 100000 in
set_option maxHeartbeats 2000000 in
theorem regread_any {S : Stt} (hS : S.ok) (hb : Blk w gr 57 (rcells gd S)) : Calls Try.prog 16 #[.pointer (some ⟨gr, 0, none⟩)] w fun e w' => e = .returned (.agg (scells S).toArray) ∧ Grow w w' := by
  obtain ⟨Z, hZ⟩ : ∃ Z, Z = (scells Stt.zero).toArray := ⟨_, rfl⟩
  have hz : ∀ w, (zeroValue 26).run Try.prog w = .ok (.agg Z) w := fun w => by rw [hZ]; exact zeroVS w
  obtain ⟨wz, hwz⟩ : ∃ wz, wz = w.alloc (.cells Z 26) := ⟨_, rfl⟩
  obtain ⟨gz, hgz⟩ : ∃ gz, gz = w.heap.size := ⟨_, rfl⟩
  have HG : Hid (Grow w wz) := by show Grow _ _; rw [hwz]; exact (But.refl _ w).alloc _
  have HBZ : Hid (Blk wz gz 26 (scells Stt.zero)) := by show Blk _ _ _ _; rw [hwz, hZ]; exact Blk.new hgz.symm
  have HWZ := Hid.mk' hwz
  have HGZ := Hid.mk' hgz
  have HBR := Hid.mk' (hb.but HG.out (fun h => h))
  have HC : Hid (∀ j u, (scells S)[j]? = some u → wz.cell? ((⟨gr, 1, none⟩ : Addr).add j) = some u) := fun j u hj => by
    rw [addr_add, HBR.out.cell, Nat.add_comm]
    exact hj
  have HL : Hid ((Try.prog.info? 26).map (·.size) = some (scells S).length) := by rw [scells_len hS]; exact iSt
  have HLZ : Hid ((scells Stt.zero).length = (scells S).length) := by rw [scells_len hS]; rfl
  clear hb hwz hgz hZ hS
  go_enter Try.func16, Try.ntmps16
  go_upto_region 1 with fail
  rw [← HWZ.out, ← HGZ.out]
  clear hz
  go_wp2_with (first
    | (refine wpList_load_cells rfl _ _ rfl ⟨gr, 1, none⟩ rfl (scells S) _ HC.out Try.underlying26 rfl HL.out ?_)
    | (refine wpList_store_at rfl _ _ _ rfl gz 0 (scells S) rfl rfl 26 [] (scells Stt.zero) [] (by simpa using HBZ.out) rfl HLZ.out HL.out (scells_one S) ?_; intro w3 hb3 hbut3; rw [List.nil_append, List.append_nil] at hb3)
    | fail)
  refine bodyPost_ret (results_cell_row rfl _ _ gz _ _ _ _ rfl hb3 Try.underlying26 rfl HL.out) rfl ⟨rfl, HG.out.then hbut3 (fun b hb e => by have := HGZ.out; omega)⟩
set_option maxRecDepth 100000 in
set_option maxHeartbeats 2000000 in
theorem regread_nil (w : World) : Calls Try.prog 16 #[.pointer none] w fun e w' => e = .returned (.agg (scells Stt.zero).toArray) ∧ Grow w w' := by
  obtain ⟨Z, hZ⟩ : ∃ Z, Z = (scells Stt.zero).toArray := ⟨_, rfl⟩
  have hz : ∀ w, (zeroValue 26).run Try.prog w = .ok (.agg Z) w := fun w => by rw [hZ]; exact zeroVS w
  have HBU : Hid (∀ w, (Instr.build 26 #[]).run Try.prog w = .ok (.agg Z) w) := fun w => by rw [hZ]; exact builtZ w
  obtain ⟨wz, hwz⟩ : ∃ wz, wz = w.alloc (.cells Z 26) := ⟨_, rfl⟩
  obtain ⟨gz, hgz⟩ : ∃ gz, gz = w.heap.size := ⟨_, rfl⟩
  have HG : Hid (Grow w wz) := by show Grow _ _; rw [hwz]; exact (But.refl _ w).alloc _
  have HBZ : Hid (Blk wz gz 26 (scells Stt.zero)) := by show Blk _ _ _ _; rw [hwz, hZ]; exact Blk.new hgz.symm
  have HWZ := Hid.mk' hwz
  have HGZ := Hid.mk' hgz
  have HZ := Hid.mk' hZ
  have HL : Hid ((Try.prog.info? 26).map (·.size) = some (scells Stt.zero).length) := iSt
  clear hwz hgz hZ
  go_enter Try.func16, Try.ntmps16
  go_upto_region 1 with fail
  rw [← HWZ.out, ← HGZ.out]
  clear hz
  go_wp2_with (first
    | (refine wpList_build_run rfl _ [] rfl [] rfl _ (HBU.out _) ?_)
    | (refine wpList_store_at rfl _ _ _ rfl gz 0 (scells Stt.zero) rfl (by show Value.agg Z = _; rw [HZ.out]) 26 [] (scells Stt.zero) [] (by simpa using HBZ.out) rfl rfl HL.out (scells_one _) ?_; intro w3 hb3 hbut3; rw [List.nil_append, List.append_nil] at hb3)
    | fail)
  refine bodyPost_ret (results_cell_row rfl _ _ gz _ _ _ _ rfl hb3 Try.underlying26 rfl HL.out) rfl ⟨rfl, HG.out.then hbut3 (fun b hb e => by have := HGZ.out; omega)⟩
set_option maxRecDepth 100000 in
theorem regwrite_nil (S : Stt) (w : World) : Calls Try.prog 17 #[.pointer none, .agg (scells S).toArray] w fun e w' => e = .returned (.int .i64 5) ∧ Grow w w' := by
  obtain ⟨N, hN⟩ : ∃ N, N = (scells S).toArray := ⟨_, rfl⟩
  rw [← hN]
  have HG : Hid (Grow w (w.alloc (.cells N 26))) := (But.refl _ w).alloc _
  clear hN
  go_enter Try.func17, Try.ntmps17
  go_wp2
  go_ret
  exact ⟨rfl, HG.out⟩
end
end Go.Proofs.Ytcikldklacgafaa
