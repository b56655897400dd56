/- The reference's key in a variable of a law. -/
import Derived.Test.YtdlalpklopnpjaaRefNew
import Derived.Test.YtdlalpklopnpjaaRefNewNo
import Derived.Test.YtdlalpklopnpjaaRefEnc
import Derived.Test.YtdlalpklopnpjaaRefDec
import Derived.Test.YtdlalpklopnpjaaAesFrame
namespace Go.Proofs.Ytdlalpklopnpjaa
open Go.RowKit

theorem zeroK (w : World) : (zeroValue 32).run Try.prog w = .ok (.agg zeroKey.toArray) w := by kernel_rfl
theorem keyV_one (g n cap : Nat) : ∀ u ∈ keyV (.slice (some ⟨g, 0, none⟩) n cap), u.oneCell' = true := by
  intro u hu
  unfold keyV at hu
  rcases List.mem_cons.1 hu with rfl | hu
  · rfl
  · rcases List.mem_append.1 hu with h | h
    · exact u8s_one _ u h
    · exact u8s_one _ u h
/-- A key into a variable that was made for it. -/
theorem wpList_store_key {w : World} {ops : Array Oper} {rest : List Oper} {o : Oper} {a : Act} {Q : Exit → Act → World → Prop} (hgd : o.guard = none) (x y : Operand) (ho : o.op = .store 32 x y)
    (g : Nat) (L : List Value) (hL : L.length = 513) (h1 : ∀ u ∈ L, u.oneCell' = true) (hx : a.eval x = .pointer (some ⟨g, 0, none⟩)) (hy : a.eval y = .agg L.toArray) (hb : Blk w g 32 zeroKey)
    (h : ∀ w', Blk w' g 32 L → But (· = g) w w' → wpList Try.prog ops Q rest (a.put o.dst undef) w') : wpList Try.prog ops Q (o :: rest) a w := by
  refine wpList_store_at hgd 32 x y ho g 0 L hx hy 32 [] zeroKey [] (by simpa using hb) rfl (by rw [zeroKey_len, hL]) (by rw [iKey, hL]) h1 ?_
  intro w' hb' hb2
  exact h w' (by simpa using hb') hb2
theorem run_load_key {w : World} {o : Oper} {a : Act} {x : Operand} {g : Nat} {L : List Value} (hb : Blk w g 32 L) (hL : L.length = 513)
    (ho : o.op = .load 32 x) (hx : a.eval x = .pointer (some ⟨g, 0, none⟩)) : (execOp a.eval o).run Try.prog w = .ok (.value (.agg L.toArray)) w := by
  have h := run_loadVar_cells w ⟨g, 0, none⟩ 32 L _ (by
    intro j v hv
    have e : (⟨g, 0, none⟩ : Addr).add j = ⟨g, j, none⟩ := by simp [Addr.add]; exact fun h => h.symm
    rw [e, hb.cell]; exact hv) Try.underlying32 rfl (by rw [iKey, hL])
  unfold execOp
  simp only [ho, hx, Instr.loadAt, Instr.sureAddr, Sem.run_bind, Sem.run_pure, Result.andThen_ok, h]
theorem words_lens {key : List B8} (h : key.length = 16 ∨ key.length = 32) : (words key).length = 44 ∨ (words key).length = 60 := by
  rw [words_len]; omega
end Go.Proofs.Ytdlalpklopnpjaa
