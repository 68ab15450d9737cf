/-
  package frame's WALKS, 4: the Writer.
-/
import Derived.Test.YtfldcmdhneegmaaDoorFrE
import Derived.Test.YtfldcmdhneegmaaDoorFrV
namespace Go.Proofs.YtfldcmdhneegmaaDoor
open Go.RowKit Go.Lib

/-- The Writer in memory: its block, and a row of the call's own. -/
def WrAt (base : Nat) (w : World) (b : Nat) (l : List UInt8) : Prop :=
  ∃ v, w.heap[b]? = some (.cells #[v] 173 (0, 0)) ∧ w.ownsRow base 5 1 v l.length (byteCells l) ∧ base ≤ b
set_option maxRecDepth 100000 in
theorem or128 : ∀ x : Fin 256, x.val ||| 128 = x.val % 128 + 128 := by decide
theorem or_byte (u : Nat) : bits .or .u8 ((u : Int) % 256) 128 = ((u % 128 + 128 : Nat) : Int) := by
  have h1 := u8_or_nat (u % 256) 128 (by omega) (by omega)
  have h2 := or128 ⟨u % 256, by omega⟩
  simp only at h2
  rw [h2, show u % 256 % 128 = u % 128 by omega] at h1
  rw [← h1]
  rfl
/-- A byte more. -/
theorem WrAt.put {base b : Nat} {w w1 w2 : World} {l : List UInt8} {v v' : Value} {x : UInt8} {o : Obj} (hbk : w1.heap[b]? = some (.cells #[v] 173 (0, 0))) (hown : w1.ownsRow base 5 1 v l.length (byteCells l)) (hbb : base ≤ b) (hb1 : Below base w w1) (hbw : base ≤ w.heap.size)
    (hown' : w2.ownsRow base 5 1 v' (l.length + 1) (byteCells l ++ [.int .u8 x.toNat])) (hg : (w1.alloc o).grownBy w2 v.ownBlock) :
    w2.heap[b]? = some (.cells #[v] 173 (0, 0)) ∧ WrAt base (w2.setCell ⟨b, 0, none⟩ v') b (l ++ [x]) ∧ Below base w (w2.setCell ⟨b, 0, none⟩ v') := by
  have hlt : b < w1.heap.size := lt_of_block hbk
  have hne : some b ≠ v.ownBlock := fun e => by
    obtain ⟨-, c, fz, h⟩ := own_block hown b e.symm
    rw [hbk] at h
    cases h
  have hb2 : w2.heap[b]? = some (.cells #[v] 173 (0, 0)) := by
    rw [hg.block b (by simp; omega) hne, Below.heap_alloc _ _ _ hlt]
    exact hbk
  have hne' : ∀ g, v'.ownBlock = some g → g ≠ b := fun g e h => by
    obtain ⟨-, c, fz, h2⟩ := own_block hown' g e
    rw [h, hb2] at h2
    cases h2
  refine ⟨hb2, ⟨v', one_set hb2 v', ?_, hbb⟩, ?_⟩
  · have e1 : (l ++ [x]).length = l.length + 1 := by simp
    have e2 : byteCells (l ++ [x]) = byteCells l ++ [.int .u8 x.toNat] := by simp [byteCells]
    rw [e1, e2]
    exact ownsRow_setCell_other hown' (a := ⟨b, 0, none⟩) (fun e => hne' b e rfl) _
  · exact ((hb1.alloc (Nat.le_trans hbw hb1.size) o).grown hg (by have := hb1.size; simp; omega) (fun k hk => (own_block hown k hk).1)).setCell hbb _

set_option maxHeartbeats 2000000 in
set_option maxRecDepth 1000000 in
theorem wNumber_any (base b : Nat) (l : List UInt8) (n : Nat) (w : World) (h : WrAt base w b l) (hn : n < 18446744073709551616) (hl : l.length ≤ 100000000) (hbw : base ≤ w.heap.size) :
    Calls Tryd.prog 64 #[.pointer (some ⟨b, 0, none⟩), .int .u64 n] w fun e w' => e = .returned (.tuple #[]) ∧ WrAt base w' b (l ++ Fr.num n) ∧ Below base w w' := by
  go_enter Tryd.func64, Tryd.ntmps64
  go_wp2
  go_loopw [1] (fun m wr => ∃ (u : Nat) (acc : List UInt8), u < 18446744073709551616 ∧ m = .int .u64 u ∧ Hid (acc ++ Fr.num u = l ++ Fr.num n ∧ WrAt base wr b acc ∧ Below base w wr)) (fun m _ => (intOf m).toNat)
  case atStart => exact ⟨n, l, hn, rfl, rfl, h, Below.refl _ _⟩
  case round =>
    obtain ⟨u, acc, hu, rfl, hr⟩ := hrel
    have ha : acc.length ≤ 100000010 := by
      have h1 := congrArg List.length hr.out.1
      have h2 := Fr.num_length64 hn
      rw [List.length_append, List.length_append] at h1
      omega
    obtain ⟨v, hbk, hown, hbb⟩ := hr.out.2.1
    obtain ⟨c0, f0⟩ := one_cell hbk
    obtain ⟨i0, hi, hz0, hz1, hz2⟩ := info_parts Tryd.infoByteW
    by_cases h10 : 128 ≤ u
    · have h10' : (128 : Int) ≤ (u : Int) := by omega
      have hbo := or_byte u
      obtain ⟨xb, hxb, hx⟩ : ∃ xb : UInt8, UInt8.ofNat (u % 128 + 128) = xb ∧ (xb.toNat : Int) = ((u % 128 + 128 : Nat) : Int) := ⟨_, rfl, by rw [Fr.toNat_ofNat (by omega)]⟩
      rw [← hx] at hbo
      have HXB := hid hxb
      clear hx hxb
      have HR := hid hr.out
      clear hr
      go_wp2_with (at_builtin; refine wpList_append_row rfl _ _ 30 rfl base 5 i0 (.int .u8 0) 1 1 Tryd.underlying30 hi hz0 hz1 hz2 rfl (by decide) _ _ _ rfl (hown.alloc _) (fun _ => True) _ 1 [.int .u8 xb.toNat] rfl (one_row (new_at rfl)) (by intro u hu; simp at hu; subst hu; rfl) (by unfold maxLen; omega) (by omega) (by have := HR.out.2.2.size; simp; omega) ?_)
      intro v' w2 hown' hg
      obtain ⟨hb2, hput, hbel⟩ := WrAt.put hbk hown hbb HR.out.2.2 hbw hown' hg
      obtain ⟨d0, g0⟩ := one_cell hb2
      obtain ⟨a1, p1, rfl⟩ := own_slice hown'
      have HP := hid (And.intro hput hbel)
      clear hown' hg hput hbel
      go_wp2
      go_roundw
      case rel =>
        refine ⟨u / 128, acc ++ [xb], by omega, by go_num, ?_, HP.out.1, HP.out.2⟩
        rw [← HR.out.1, Fr.num_great (n := u) (by omega), HXB.out]
        simp
      case measure => simp [intOf]; omega
    · have h10' : ¬ (128 : Int) ≤ (u : Int) := by omega
      have hx : ((UInt8.ofNat u).toNat : Int) = (u : Int) := by rw [Fr.toNat_ofNat (by omega)]
      have HX := hid hx
      clear hx
      have HR := hid hr.out
      clear hr
      go_wp2_with (at_builtin; refine wpList_append_row rfl _ _ 30 rfl base 5 i0 (.int .u8 0) 1 1 Tryd.underlying30 hi hz0 hz1 hz2 rfl (by decide) _ _ _ rfl (hown.alloc _) (fun _ => True) _ 1 [.int .u8 (u : Int)] rfl (one_row (new_at rfl)) (by intro u hu; simp at hu; subst hu; rfl) (by unfold maxLen; omega) (by omega) (by have := HR.out.2.2.size; simp; omega) ?_)
      intro v' w2 hown' hg
      rw [← HX.out] at hown'
      obtain ⟨hb2, hput, hbel⟩ := WrAt.put hbk hown hbb HR.out.2.2 hbw hown' hg
      obtain ⟨d0, g0⟩ := one_cell hb2
      obtain ⟨a1, p1, rfl⟩ := own_slice hown'
      have HP := hid (And.intro hput hbel)
      clear hown' hg hput hbel
      go_wp2
      go_end0
      refine ⟨rfl, ?_, HP.out.2⟩
      have := HR.out.1
      rw [Fr.num_small (n := u) (by omega)] at this
      rw [← this]
      exact HP.out.1

theorem own_one {W : World} {g base : Nat} {e : TypeId} {x : Value} (h : W.heap[g]? = some (.cells #[x] e (0, 0))) (hb : base ≤ g) : W.ownsRow base e 1 (.slice (some ⟨g, 0, none⟩) 1 1) 1 [x] :=
  ⟨by simp, Or.inr ⟨g, 1, #[x], rfl, hb, h, Nat.le_refl _, by unfold maxLen; omega, by simp, by simp⟩⟩

set_option maxHeartbeats 1000000 in
theorem newWriter_any (kind : UInt8) (w : World) :
    Calls Tryd.prog 62 #[.int .u8 kind.toNat] w fun e w' => ∃ b, e = .returned (.pointer (some ⟨b, 0, none⟩)) ∧ WrAt w.heap.size w' b [kind] ∧ Below w.heap.size w w' := by
  go_enter Tryd.func62, Tryd.ntmps62
  go_wp2
  go_ret
  refine ⟨w.heap.size + 1, rfl, ⟨_, new_at (by simp), own_one ((Below.heap_alloc _ _ _ (by simp)).trans (new_at rfl)) (Nat.le_refl _), by omega⟩, ((Below.refl _ w).alloc (Nat.le_refl _) _).alloc (by simp) _⟩

end Go.Proofs.YtfldcmdhneegmaaDoor
