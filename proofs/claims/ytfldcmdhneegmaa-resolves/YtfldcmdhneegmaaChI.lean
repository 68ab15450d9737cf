/-
  package chain's WALKS: opened.
-/
import Derived.Test.YtfldcmdhneegmaaChH
namespace Go.Proofs.Ytfldcmdhneegmaa
open Go.RowKit Go.Lib

theorem openedEnd_none {F : Nat → Prop} {l : List UInt8} {w w' : World} {n : Int} {s : ByteArray} (h : Fr.parts l = none) (hb : Below w.heap.size w w') : OpenedEnd F l w (.returned (.tuple #[dval 0 0 0 (.slice none 0 0), .iface 79 (.agg #[.int .i64 n, .string s])])) w' := by
  unfold OpenedEnd
  rw [h]
  exact ⟨hb, n, s, rfl⟩
theorem openedEnd_some {F : Nat → Prop} {l : List UInt8} {w w' : World} {s m : List UInt8} {p q : Nat} {am : Addr} {n cm : Nat} (h : Fr.parts l = some (s, p, q, m)) (hb : Below w.heap.size w w') (hv : BytesAt F w' (.slice (some am) n cm) m) : OpenedEnd F l w (.returned (.tuple #[dval (Fr.val s) p q (.slice (some am) n cm), .nilIface])) w' := by
  unfold OpenedEnd
  rw [h]
  exact ⟨hb, am, n, cm, rfl, hv⟩

set_option maxHeartbeats 2000000 in
set_option maxRecDepth 1000000 in
theorem opened_any (F : Nat → Prop) (v : Value) (l : List UInt8) (w : World) (hv : BytesAt F w v l) (hF : ∀ i, F i → i < w.heap.size) (hl : l.length ≤ 1000000) :
    Calls Try.prog 14 #[v] w (OpenedEnd F l w) := by
  have hsz : ∀ o, (w.alloc o).heap.size = w.heap.size + 1 := fun o => by simp
  have HSZ := hid hsz
  have HC := hid (fun o => readDD_any F v l (w.alloc o) (hv.below ((Below.refl _ _).alloc (Nat.le_refl _) _)) (fun i h => by have := hF i h; simp; omega) hl)
  clear hv hsz
  cases hp : Fr.parts l with
  | none =>
    have HX := hid hp
    clear hp
    go_enter Try.func14, Try.ntmps14
    go_wp2_with (go_at_call 25; refine (HC.out _).mono ?_; rintro e w1 ⟨hb, he⟩; rw [HX.out] at he; obtain ⟨n1, s1, rfl⟩ := he; rw [HSZ.out] at hb; have hk := (hb.block w.heap.size (by omega)).trans (heap_alloc_new w _); obtain ⟨c0, c1, c2, c3, cz⟩ := blk_four hk; have HB := hid (And.intro hk (((Below.refl _ w).alloc (Nat.le_refl _) _).trans (hb.mono (by omega)))); clear hb hk; unfold dval)
    have hp4 := put_four HB.out.1 (.int .u32 0) (.int .u64 0) (.int .u64 0) (.slice none 0 0)
    obtain ⟨g0, g1, g2, g3, -⟩ := blk_four hp4
    refine bodyPost_ret (v := .tuple #[.agg #[.int .u32 0, .int .u64 0, .int .u64 0, .slice none 0 0], .iface 79 (.agg #[.int .i64 n1, .string s1])]) (by simp [results, Try.results14, go_sem, g0, g1, g2, g3]) rfl ?_
    exact openedEnd_none HX.out (bel_four HB.out.2 (Nat.le_refl _) _ _ _ _)
  | some x =>
    obtain ⟨s, p, q, m⟩ := x
    obtain ⟨S1, hS1⟩ : ∃ S1, Fr.val s = S1 := ⟨_, rfl⟩
    have HS1 := hid hS1
    have HX := hid hp
    clear hp hS1
    go_enter Try.func14, Try.ntmps14
    go_wp2_with (go_at_call 25; refine (HC.out _).mono ?_; rintro e w1 ⟨hb, he⟩; rw [HX.out] at he; obtain ⟨am, n, cm, rfl, hm⟩ := he; rw [HSZ.out] at hb; rw [HS1.out]; have hk := (hb.block w.heap.size (by omega)).trans (heap_alloc_new w _); obtain ⟨c0, c1, c2, c3, cz⟩ := blk_four hk; have HB := hid (And.intro hk (And.intro (((Below.refl _ w).alloc (Nat.le_refl _) _).trans (hb.mono (by omega))) hm)); clear hb hk hm; unfold dval)
    have hp4 := put_four HB.out.1 (.int .u32 S1) (.int .u64 p) (.int .u64 q) (.slice (some am) n cm)
    obtain ⟨g0, g1, g2, g3, -⟩ := blk_four hp4
    refine bodyPost_ret (v := .tuple #[.agg #[.int .u32 S1, .int .u64 p, .int .u64 q, .slice (some am) n cm], .nilIface]) (by simp [results, Try.results14, go_sem, g0, g1, g2, g3]) rfl ?_
    have hbf := bel_four HB.out.2.1 (Nat.le_refl _) (.int .u32 S1) (.int .u64 p) (.int .u64 q) (.slice (some am) n cm)
    have h := openedEnd_some HX.out hbf (HB.out.2.2.bel hF HB.out.2.1 hbf)
    rw [HS1.out] at h
    exact h

end Go.Proofs.Ytfldcmdhneegmaa
