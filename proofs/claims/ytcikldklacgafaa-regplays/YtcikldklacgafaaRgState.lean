/- A register's state: what it holds, how that lies in memory, and two of them held against each other. -/
import Derived.Test.YtcikldklacgafaaDvOn
import Derived.Test.YtcikldklacgafaaEqItems
import Derived.Laws.StructEq
namespace Go.Proofs.Ytcikldklacgafaa
open Go.RowKit

structure Stt where
  pages : Int
  budget : Int
  wide : Bool
  boot : Int
  version : Int
  epoch : Int
  cursor : Int
  busy : Bool
  root : List Nat
  mark : List Nat
structure Stt.ok (S : Stt) : Prop where
  pages : -9223372036854775808 ≤ S.pages ∧ S.pages ≤ 9223372036854775807
  budget : -9223372036854775808 ≤ S.budget ∧ S.budget ≤ 9223372036854775807
  boot : 0 ≤ S.boot ∧ S.boot ≤ 4294967295
  version : 0 ≤ S.version ∧ S.version ≤ 18446744073709551615
  epoch : 0 ≤ S.epoch ∧ S.epoch ≤ 4294967295
  cursor : -9223372036854775808 ≤ S.cursor ∧ S.cursor ≤ 9223372036854775807
  root : S.root.length = 32
  mark : S.mark.length = 32
  rootb : ∀ z ∈ S.root, z < 256
  markb : ∀ z ∈ S.mark, z < 256
def scells (S : Stt) : List Value := .int .i64 S.pages :: .int .i64 S.budget :: .bool S.wide :: .int .u32 S.boot :: .int .u64 S.version :: .int .u32 S.epoch :: .int .i64 S.cursor :: .bool S.busy :: (u8s S.root ++ u8s S.mark)
def z32 : List Nat := List.replicate 32 0
def Stt.zero : Stt := ⟨0, 0, false, 0, 0, 0, 0, false, z32, z32⟩
theorem Stt.zero_ok : Stt.zero.ok := ⟨by decide, by decide, by decide, by decide, by decide, by decide, rfl, rfl, by decide, by decide⟩
theorem scells_len {S : Stt} (h : S.ok) : (scells S).length = 72 := by
  simp [scells, u8s, h.root, h.mark]
theorem scells_one (S : Stt) : ∀ u ∈ scells S, u.oneCell' = true := by
  intro u hu
  unfold scells at hu
  rcases List.mem_cons.1 hu with rfl | hu
  · rfl
  rcases List.mem_cons.1 hu with rfl | hu
  · rfl
  rcases List.mem_cons.1 hu with rfl | hu
  · rfl
  rcases List.mem_cons.1 hu with rfl | hu
  · rfl
  rcases List.mem_cons.1 hu with rfl | hu
  · rfl
  rcases List.mem_cons.1 hu with rfl | hu
  · rfl
  rcases List.mem_cons.1 hu with rfl | hu
  · rfl
  rcases List.mem_cons.1 hu with rfl | hu
  · rfl
  rcases List.mem_append.1 hu with hu | hu
  · exact u8s_one _ u hu
  · exact u8s_one _ u hu
theorem iSt : (Try.prog.info? 26).map (·.size) = some 72 := by kernel_rfl
def Stt.same (A B : Stt) : Bool := (A.pages == B.pages) && ((A.budget == B.budget) && ((A.wide == B.wide) && ((A.boot == B.boot) && ((A.version == B.version) && ((A.epoch == B.epoch) && ((A.cursor == B.cursor) && ((A.busy == B.busy) && (decide (A.root = B.root) && (decide (A.mark = B.mark) && true)))))))))
theorem same_iff {A B : Stt} : A.same B = true ↔ A = B := by
  unfold Stt.same
  simp only [Bool.and_eq_true, beq_iff_eq, decide_eq_true_eq, and_true]
  constructor
  · rintro ⟨h1, h2, h3, h4, h5, h6, h7, h8, h9, h10⟩
    cases A; cases B
    simp_all
  · rintro rfl
    exact ⟨rfl, rfl, rfl, rfl, rfl, rfl, rfl, rfl, rfl, rfl⟩
theorem same_refl (A : Stt) : A.same A = true := same_iff.2 rfl
theorem equalNd {T : TypeId} {n : Nat} (hT : Try.prog.underlying T = some (.array n 5)) (d : Nat) (D E : List Nat) (hD : D.length = n) (hE : E.length = n) (w : World) :
    (Op.equalIn (d + 2) T (.agg (u8s D).toArray) (.agg (u8s E).toArray)).run Try.prog w = .ok (decide (D = E)) w := by
  obtain ⟨i, hi⟩ : ∃ i, Try.prog.info? 5 = some i := by
    obtain ⟨i0, hi, _⟩ := info_parts u8info
    exact ⟨i0, hi⟩
  have hc : Try.prog.cellsOf 5 = 1 := by kernel_rfl
  rw [run_equalIn_array w (d + 1) _ _ hT hi, hc]
  rw [eqItems_any D E d w _ (by intro j hj; rw [hD]; simpa using hj) (by intro j hj; rw [hE]; simpa using hj)]
  obtain ⟨b, hb⟩ : ∃ b, b = ((List.range n).all fun j => D.getD j 0 == E.getD j 0) := ⟨_, rfl⟩
  rw [← hb]
  have e : b = decide (D = E) := by
    rw [hb, Bool.eq_iff_iff, List.all_eq_true, decide_eq_true_iff]
    constructor
    · intro h
      apply List.ext_getElem (by rw [hD, hE])
      intro k h1 h2
      have h3 := h k (by simp; omega)
      simpa [List.getD, h1, h2] using h3
    · rintro rfl j _
      simp
  rw [e]
theorem eqf_cons {d : Nat} {xs ys : Array Value} {f : Field} {fs : List Field} {u v : Value} {b r : Bool} {w : World} (hn : f.name ≠ "_") (hx : (part f.type xs f.offset).run Try.prog w = .ok u w) (hy : (part f.type ys f.offset).run Try.prog w = .ok v w)
    (he : (Op.equalIn d f.type u v).run Try.prog w = .ok b w) (hr : (Op.eqFields d xs ys fs).run Try.prog w = .ok r w) : (Op.eqFields d xs ys (f :: fs)).run Try.prog w = .ok (b && r) w := by
  unfold Op.eqFields
  rw [if_pos hn]
  simp only [Sem.run_bind, hx, hy, he, Result.andThen_ok, Sem.run_ite, Sem.run_pure]
  cases b
  · rfl
  · simpa using hr
theorem part_one {t : TypeId} {cs : Array Value} {o : Nat} {v : Value} {w : World} (h : (isAgg t).run Try.prog w = .ok false w) (hc : cs[o]? = some v) : (part t cs o).run Try.prog w = .ok v w := by
  unfold part
  rw [Sem.run_bind, h, Result.andThen_ok, hc]
  rfl
theorem part_arr {A B C : List Value} {w : World} (h : A.length = 8) {T : TypeId} (hT : (isAgg T).run Try.prog w = .ok true w) (hs : (sizeOf T).run Try.prog w = .ok 32 w) {o : Nat} (ho : (A ++ B).length = o) (hC : C.length = 32) (D : List Value) : (part T (A ++ B ++ C ++ D).toArray o).run Try.prog w = .ok (.agg C.toArray) w := by
  have _ := h
  unfold part
  simp only [Sem.run_bind, hT, Result.andThen_ok, if_true, hs, Sem.run_pure]
  congr 2
  rw [List.extract_toArray, List.extract_eq_take_drop, ← ho, Nat.add_sub_cancel_left, List.append_assoc, List.drop_left, ← hC, List.take_left]
theorem equalS {A B : Stt} (hA : A.ok) (hB : B.ok) (w : World) : (Op.equalIn 10000 26 (.agg (scells A).toArray) (.agg (scells B).toArray)).run Try.prog w = .ok (A.same B) w := by
  rw [run_equalIn_struct w 9999 26 _ _ (by kernel_rfl) (by kernel_rfl)]
  have i3 : (isAgg 3).run Try.prog w = .ok false w := by kernel_rfl
  have i4 : (isAgg 4).run Try.prog w = .ok false w := by kernel_rfl
  have i22 : (isAgg 22).run Try.prog w = .ok false w := by kernel_rfl
  have i23 : (isAgg 23).run Try.prog w = .ok false w := by kernel_rfl
  have i24 : (isAgg 24).run Try.prog w = .ok true w := by kernel_rfl
  have s24 : (sizeOf 24).run Try.prog w = .ok 32 w := by kernel_rfl
  have hu : ∀ S : Stt, scells S = [.int .i64 S.pages, .int .i64 S.budget, .bool S.wide, .int .u32 S.boot, .int .u64 S.version, .int .u32 S.epoch, .int .i64 S.cursor, .bool S.busy] ++ [] ++ u8s S.root ++ u8s S.mark := fun S => by simp [scells]
  have hv : ∀ S : Stt, scells S = [.int .i64 S.pages, .int .i64 S.budget, .bool S.wide, .int .u32 S.boot, .int .u64 S.version, .int .u32 S.epoch, .int .i64 S.cursor, .bool S.busy] ++ u8s S.root ++ u8s S.mark ++ [] := fun S => by simp [scells]
  have hr : ∀ S : Stt, S.ok → (part 24 (scells S).toArray 8).run Try.prog w = .ok (.agg (u8s S.root).toArray) w := fun S hS => by
    rw [hu]
    exact part_arr rfl i24 s24 rfl (by rw [u8s_len]; exact hS.root) _
  have hm : ∀ S : Stt, S.ok → (part 24 (scells S).toArray 40).run Try.prog w = .ok (.agg (u8s S.mark).toArray) w := fun S hS => by
    rw [hv]
    exact part_arr rfl i24 s24 (by rw [List.length_append, u8s_len, hS.root]; rfl) (by rw [u8s_len]; exact hS.mark) _
  have hf : (Try.prog.fieldsOf 26).toList = [⟨ "Pages", 3, 0, false, "", "", 0⟩, ⟨ "Budget", 3, 1, false, "", "", 8⟩, ⟨ "Wide", 4, 2, false, "", "", 16⟩, ⟨ "Boot", 22, 3, false, "", "", 20⟩, ⟨ "Version", 23, 4, false, "", "", 24⟩, ⟨ "Epoch", 22, 5, false, "", "", 32⟩, ⟨ "Cursor", 3, 6, false, "", "", 40⟩, ⟨ "Busy", 4, 7, false, "", "", 48⟩, ⟨ "Root", 24, 8, false, "", "", 49⟩, ⟨ "Mark", 24, 40, false, "", "", 81⟩] := by kernel_rfl
  rw [hf]
  unfold Stt.same
  refine eqf_cons (by decide) (part_one i3 rfl) (part_one i3 rfl) (run_equalIn_int w 9998 3 .i64 .i64 _ _ Try.underlying3) ?_
  refine eqf_cons (by decide) (part_one i3 rfl) (part_one i3 rfl) (run_equalIn_int w 9998 3 .i64 .i64 _ _ Try.underlying3) ?_
  refine eqf_cons (by decide) (part_one i4 rfl) (part_one i4 rfl) (run_equalIn_bool' w 9998 4 _ _ Try.underlying4) ?_
  refine eqf_cons (by decide) (part_one i22 rfl) (part_one i22 rfl) (run_equalIn_int w 9998 22 .u32 .u32 _ _ Try.underlying22) ?_
  refine eqf_cons (by decide) (part_one i23 rfl) (part_one i23 rfl) (run_equalIn_int w 9998 23 .u64 .u64 _ _ Try.underlying23) ?_
  refine eqf_cons (by decide) (part_one i22 rfl) (part_one i22 rfl) (run_equalIn_int w 9998 22 .u32 .u32 _ _ Try.underlying22) ?_
  refine eqf_cons (by decide) (part_one i3 rfl) (part_one i3 rfl) (run_equalIn_int w 9998 3 .i64 .i64 _ _ Try.underlying3) ?_
  refine eqf_cons (by decide) (part_one i4 rfl) (part_one i4 rfl) (run_equalIn_bool' w 9998 4 _ _ Try.underlying4) ?_
  refine eqf_cons (by decide) (hr A hA) (hr B hB) (equalNd Try.underlying24 9997 _ _ hA.root hB.root w) ?_
  refine eqf_cons (by decide) (hm A hA) (hm B hB) (equalNd Try.underlying24 9997 _ _ hA.mark hB.mark w) ?_
  simp [Op.eqFields]
/-- Which state may be. -/
def Stt.right (S : Stt) : Bool := decide (1 ≤ S.pages ∧ S.pages ≤ 4096) && (decide (1 ≤ S.budget ∧ S.budget ≤ 256) && (decide (0 ≤ S.cursor ∧ S.cursor ≤ S.pages) && decide (0 < S.epoch)))
def Stt.blank (S : Stt) : Bool := S.same Stt.zero
def Stt.lay (A B : Stt) : Bool := (A.pages == B.pages) && ((A.budget == B.budget) && ((A.wide == B.wide) && true))
def Stt.sinks (A B : Stt) : Bool := decide (B.boot < A.boot) || (decide (B.version < A.version) || decide (B.epoch < A.epoch))
/-- Which one may follow another. -/
def Stt.follows (A B : Stt) : Bool := B.right && (A.blank || (A.lay B && !A.sinks B))
end Go.Proofs.Ytcikldklacgafaa
