/- count: Pack. -/
import Derived.Test.YtffiphdbjohilaaCtLay
namespace Go.Proofs.Ytffiphdbjohilaa
open Go.ChangeShapes Go.WideShapes Go.ChangeAt Go.RowKit Go.Deep

theorem zeroE (w : World) : (zeroValue 39).run Try.prog w = .ok (.agg #[.int .u32 0, .int .u32 0, .int .u64 0]) w := by kernel_rfl
/-- A slice of entries that came in. -/
abbrev Ens (w : World) (v : Value) (n : Nat) (A : Nat → En) : Prop := Rws 3 ecells En.ok w v n A
theorem Ens.cells3 {w : World} {v : Value} {n : Nat} {A : Nat → En} (h : Ens w v n A) {ao : Option Addr} {cap k : Nat} (e : v = .slice ao n cap) (hk : k < n) :
    ∃ b off, ao = some ⟨b, off, none⟩ ∧ b < w.heap.size ∧ (A k).ok ∧ ∀ j u, (ecells (A k))[j]? = some u → w.cell? ((⟨b, off + k * 3, none⟩ : Addr).add j) = some u := by
  obtain ⟨b, off, cap', e', hb, hc⟩ := h.at hk
  rw [e] at e'
  simp only [Value.slice.injEq, true_and] at e'
  refine ⟨b, off, e'.1, hb, (hc k hk).1, fun j u hu => ?_⟩
  rw [add_plain]
  exact (hc k hk).2 j u hu
theorem pack_no {w : World} {v : Value} {n : Nat} {A : Nat → En} (h : Ens w v n A) (hn : 16 < n) :
    Calls Try.prog 8 #[v] w fun r w' => r = .returned (.tuple #[.slice none 0 0, .int .i64 1]) ∧ w' = w := by
  obtain ⟨ao, cap, rfl⟩ := h.len
  clear h
  go_enter Try.func8, Try.ntmps8
  go_wp2
  go_ret2
  exact ⟨rfl, rfl⟩
/-- What a Pack leaves: a new row that holds these bytes. -/
structure NewBlk (w w' : World) (v : Value) (zs : List Nat) : Prop where
  ex : ∃ g, v = .slice (some ⟨g, 0, none⟩) 256 256 ∧ w.heap.size ≤ g ∧ Blk w' g 5 (u8s zs)
  len : zs.length = 256
  lt : ∀ z ∈ zs, z < 256
  but : But (fun _ => False) w w'
theorem NewBlk.ow {w w' : World} {v : Value} {zs : List Nat} (h : NewBlk w w' v zs) : Ow w' w.heap.size v zs := by
  obtain ⟨⟨g, rfl, hg, hb⟩, hl, hz, _⟩ := h
  have := block_own (B := w.heap.size) hb hg hz (by omega)
  rw [hl] at this
  exact this
set_option maxRecDepth 100000 in
set_option maxHeartbeats 3000000 in
theorem pack_any {w : World} {v : Value} {n : Nat} {A : Nat → En} (h : Ens w v n A) (hn : n ≤ 16) :
    Calls Try.prog 8 #[v] w fun r w' => ∃ v', r = .returned (.tuple #[v', .int .i64 0]) ∧ NewBlk w w' v' (pkN A n) := by
  obtain ⟨i0, hi, hz0, hz1, hz2⟩ := info_parts u8info
  have HR := Hid.mk' h
  obtain ⟨ao, cap, rfl⟩ := h.len
  clear h
  go_enter Try.func8, Try.ntmps8
  go_wp2_with (at_make; refine wpList_make_full _ rfl _ _ 23 rfl w.heap.size 5 i0 (.int .u8 0) 1 Try.underlying23 hi hz0 hz1 .i64 .i64 _ _ 256 rfl rfl (by go_num) (by go_num) (by rw [hz2]; omega) (by unfold maxLen; omega) (Nat.le_refl _) ?_; intro w1 hown hgrow)
  obtain ⟨g, hg⟩ : ∃ g, g = w.heap.size := ⟨_, rfl⟩
  have hb1 : Blk w1 g 5 (u8s (pkN A 0)) := by
    have := own_block hown
    rw [made_zero] at this
    rw [hg]
    exact this
  have ht1 : But (fun _ => False) w w1 := (But.refl _ _).grown hgrow (by simp)
  have HG := Hid.mk' hg
  rw [← hg]
  clear hown hgrow hg
  go_loopw [13] (fun i wr => ∃ k : Nat, k ≤ n ∧ i = .int .i64 k ∧ Blk wr g 5 (u8s (pkN A k)) ∧ But (fun _ => False) w wr) (fun i _ => n - (intOf i).toNat)
  case atStart => exact ⟨0, Nat.zero_le _, rfl, hb1, ht1⟩
  case round =>
    obtain ⟨k, hk, rfl, hb, ht⟩ := hrel
    by_cases hlt : k < n
    · obtain ⟨b, off, rfl, hbl, hok, hc⟩ := HR.out.cells3 rfl hlt
      have HC : Hid (∀ j u, (ecells (A k))[j]? = some u → wr.cell? ((⟨b, off + k * 3, none⟩ : Addr).add j) = some u) := fun j u hu => by
        have := hc j u hu
        rw [add_plain] at this ⊢
        exact (World.cell?_of_block (ht.block b hbl (fun h => h))).trans this
      have HB := Hid.mk' hb
      have HT := Hid.mk' ht
      have HO := Hid.mk' hok
      have hze := zeroE
      obtain ⟨q, hq⟩ : ∃ q, q = wr.heap.size := ⟨_, rfl⟩
      have HQ0 : Hid (Blk (wr.alloc (.cells #[.int .u32 0, .int .u32 0, .int .u64 0] 39)) wr.heap.size 39 ([] ++ [.int .u32 0, .int .u32 0, .int .u64 0] ++ [])) := Blk.new rfl
      clear hc hb ht hok hb1 ht1 hq hbl
      go_upto_region 7 with (first
        | (refine wpList_load_cells rfl _ _ rfl ⟨b, off + k * 3, none⟩ rfl (ecells (A k)) _ HC.out Try.underlying39 rfl (by rw [iEn]; rfl) ?_)
        | (refine wpList_store_at rfl _ _ _ rfl wr.heap.size 0 (ecells (A k)) rfl (by exact rfl) 39 [] [.int .u32 0, .int .u32 0, .int .u64 0] [] HQ0.out rfl rfl (by rw [iEn]; rfl) (ecells_one _) ?_; intro w4 hb4 hbut4))
      have hgq : g < wr.heap.size := HB.out.lt
      have HB4 := Hid.mk' ((HB.out.but ((But.refl (fun _ => False) wr).alloc _) (fun h => h)).but hbut4 (show ¬ (g = wr.heap.size) by omega))
      have HT4 : Hid (But (fun _ => False) w w4) := ((HT.out.alloc _).then hbut4 (fun j hj e => by have := HT.out.size; omega))
      have HQ4 : Hid (Blk w4 wr.heap.size 39 (ecells (A k))) := by
        show Blk _ _ _ _
        simpa using hb4
      have HLY := Hid.mk' (lay_any (w := w4) (g := g) (cap := 256) (i := k) (zs := pkN A k) (R := []) (A k) HO.out (by rw [List.append_nil]; exact HB4.out) (pkN_len A k (by omega)) (Nat.le_refl _) (by omega))
      clear hb4 hbut4
      go_wp2_with (refine wpList_load_cells rfl _ _ rfl ⟨wr.heap.size, 0, none⟩ rfl (ecells (A k)) _ HQ4.out.cells0 Try.underlying39 rfl (by rw [iEn]; rfl) ?_)
      refine Calls.mono HLY.out ?_
      rintro e w5 ⟨rfl, hb5, ht5⟩
      rw [List.append_nil] at hb5
      have HB5 := Hid.mk' hb5
      have HT5 := Hid.mk' ht5
      clear hb5 ht5
      go_wp2
      exact ⟨⟨k + 1, by omega, by go_num, HB5.out, HT4.out.then HT5.out (fun j hj e => by have := HG.out; omega)⟩, by simp [intOf]; omega⟩
    · have hkn : k = n := by omega
      subst hkn
      have HB := Hid.mk' hb
      have HT := Hid.mk' ht
      clear hb ht hb1 ht1
      go_wp2
      go_ret2
      exact ⟨_, rfl, ⟨⟨g, rfl, by have := HG.out; omega, HB.out⟩, pkN_len A k hn, pkN_lt A k, HT.out⟩⟩
end Go.Proofs.Ytffiphdbjohilaa
