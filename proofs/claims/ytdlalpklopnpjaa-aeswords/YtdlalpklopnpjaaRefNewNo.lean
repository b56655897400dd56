/- The reference's New of what is no key. -/
import Derived.Test.YtdlalpklopnpjaaRefNewMem
import Derived.Test.YtdlalpklopnpjaaRefBytes
namespace Go.Proofs.Ytdlalpklopnpjaa
open Go.RowKit

theorem wpList_load_zeroKey {w : World} {ops : Array Oper} {rest : List Oper} {o : Oper} {a : Act} {Q : Exit → Act → World → Prop} (h1 : o.guard = none) (x : Operand) (h2 : o.op = .load 32 x) (g : Nat) (h3 : a.eval x = .pointer (some ⟨g, 0, none⟩)) (h4 : Blk w g 32 zeroKey)
    (h5 : wpList Try.prog ops Q rest (a.put o.dst (.agg zeroKey.toArray)) w) : wpList Try.prog ops Q (o :: rest) a w :=
  wpList_load_row h1 32 x h2 g h3 32 _ (0, 0) _ h4 Try.underlying32 rfl (by rw [iKey, List.size_toArray, zeroKey_len]) h5
theorem zeroKey_one : ∀ u ∈ zeroKey, u.oneCell' = true := by
  intro u hu
  unfold zeroKey at hu
  rcases List.mem_cons.1 hu with rfl | hu
  · rfl
  · rcases List.mem_append.1 hu with hu | hu <;> exact u8s_one _ u hu
set_option maxRecDepth 100000 in
set_option maxHeartbeats 1000000 in
theorem rnew_none {w : World} {v : Value} {key : List Nat} (hv : Bs w v key) (h16 : key.length ≠ 16) (h32 : key.length ≠ 32) :
    Calls Try.prog 11 #[v] w fun e w' => e = .returned (.tuple #[.agg zeroKey.toArray, .bool false]) ∧ But (fun _ => False) w w' := by
  have hz : ∀ w : World, (zeroValue 32).run Try.prog w = .ok (.agg zeroKey.toArray) w := fun _ => by kernel_rfl
  obtain ⟨Z, hZ⟩ : ∃ Z, Z = zeroKey.toArray := ⟨_, rfl⟩
  rw [← hZ] at hz
  obtain ⟨ao, cap, rfl, -, -⟩ := Bs.gen hv
  obtain ⟨n, hn⟩ : ∃ n, n = key.length := ⟨_, rfl⟩
  rw [← hn] at h16 h32 ⊢
  have e1 : ((n : Int) != 16) = true := by simp; omega
  have e2 : ((n : Int) != 32) = true := by simp; omega
  obtain ⟨g, hg⟩ : ∃ g, g = w.heap.size := ⟨_, rfl⟩
  have HR0 : Hid (Blk ((w.alloc (.cells Z 32)).alloc (.cells Z 32)) w.heap.size 32 zeroKey) := by
    rw [hZ]; exact (Blk.new rfl).but ((But.refl (fun _ => False) _).alloc _) (fun h => h)
  have HK0 : Hid (Blk ((w.alloc (.cells Z 32)).alloc (.cells Z 32)) (w.heap.size + 1) 32 zeroKey) := by
    rw [hZ]; exact Blk.new (by simp)
  have HBT : Hid (But (fun _ => False) w ((w.alloc (.cells Z 32)).alloc (.cells Z 32))) := ((But.refl _ w).alloc _).alloc _
  clear hv hn h16 h32 hZ hg
  go_enter Try.func11, Try.ntmps11
  go_wp2_with (first
    | (refine wpList_load_zeroKey rfl _ rfl (w.heap.size + 1) rfl HK0.out ?_)
    | (refine wpList_store_at rfl _ _ _ rfl w.heap.size 0 zeroKey rfl rfl 32 [] zeroKey [] (by rw [List.append_nil]; exact HR0.out) rfl rfl (by rw [iKey, zeroKey_len]) zeroKey_one ?_; intro w9 hb9 hbut9)
    | fail)
  have hb9' : Blk w9 w.heap.size 32 zeroKey := by
    have h := hb9
    rw [List.append_nil, List.nil_append] at h
    exact h
  refine bodyPost_ret (results_row_tmp rfl _ _ w.heap.size _ _ _ (.bool false) rfl hb9' Try.underlying32 rfl (by rw [iKey, List.size_toArray, zeroKey_len]) rfl) rfl ⟨rfl, ?_⟩
  exact HBT.out.then hbut9 (fun i hi e => by omega)
end Go.Proofs.Ytdlalpklopnpjaa
