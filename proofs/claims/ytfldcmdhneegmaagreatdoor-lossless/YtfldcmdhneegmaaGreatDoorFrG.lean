import Derived.Test.YtfldcmdhneegmaaGreatDoorZ02
import Derived.Test.YtfldcmdhneegmaaGreatDoorZ09
import Derived.Laws.IdiomStrings
import Derived.Laws.BitsAllLaws
import Derived.Laws.DeepStrings4

/-
  Bytes and blocks: what both sides lean on.
-/
namespace Go.Proofs.YtfldcmdhneegmaaGreatDoor
open Go.RowKit Go.Lib

theorem u8_nat (n : Nat) : ((UInt8.ofNat n).toNat : Int) = (n : Int) % 256 := by
  have : (UInt8.ofNat n).toNat = n % 256 := by simp
  omega

theorem not64 (n : Nat) (h : n < 18446744073709551616) : 18446744073709551615 ^^^ n = 18446744073709551615 - n := by
  have h1 := congrArg BitVec.toNat (BitVec.allOnes_xor (x := BitVec.ofNat 64 n))
  have h2 : n % 18446744073709551616 = n := Nat.mod_eq_of_lt h
  simpa [h2] using h1
theorem u64_not (n : Nat) (h : n < 18446744073709551616) : bits .xor .u64 18446744073709551615 (n : Int) = ((18446744073709551615 - n : Nat) : Int) := by
  have := u64_xor_nat 18446744073709551615 n (by decide) h
  rw [not64 n h] at this
  exact this

/-- Of what was there, block b alone may have turned. -/
def But (b : Nat) (w w' : World) : Prop := w.grownBy w' (some b)

theorem blk_setF {w : World} {b : Nat} {x y : Value} {t : TypeId} (h : w.heap[b]? = some (.cells #[x, y] t (0, 0))) (u : Value) :
    (w.setCell ⟨b, 0, none⟩ u).heap[b]? = some (.cells #[u, y] t (0, 0)) ∧ (w.setCell ⟨b, 1, none⟩ u).heap[b]? = some (.cells #[x, u] t (0, 0)) := by
  have hlt := lt_of_block h
  have h' : w.heap[b] = .cells #[x, y] t (0, 0) := by simpa [Array.getElem?_eq_getElem hlt] using h
  refine ⟨?_, ?_⟩
  all_goals
    show (w.heap.modify b _)[b]? = _
    rw [Array.getElem?_eq_getElem (by simpa using hlt), Array.getElem_modify_self, h']
    rfl
theorem but_set (w : World) (b i : Nat) (u : Value) : But b w (w.setCell ⟨b, i, none⟩ u) := by
  refine ⟨rfl, rfl, rfl, by simp [World.setCell], fun k hk hne => ?_⟩
  have hne' : b ≠ k := fun e => hne (by rw [e])
  show (w.heap.modify b _)[k]? = _
  rw [Array.getElem?_modify, if_neg hne']
theorem But.refl (b : Nat) (w : World) : But b w w := ⟨rfl, rfl, rfl, Nat.le_refl _, fun _ _ _ => rfl⟩
theorem But.trans {b : Nat} {w w1 w2 : World} (h : But b w w1) (h' : But b w1 w2) : But b w w2 :=
  ⟨h'.os.trans h.os, h'.tape.trans h.tape, h'.output.trans h.output, Nat.le_trans h.size h'.size, fun k hk hne => (h'.block k (Nat.lt_of_lt_of_le hk h.size) hne).trans (h.block k hk hne)⟩
theorem But.drew {b : Nat} {w w' : World} {q : Nat} (h : But b (w.drewN q) w') : But b w w' := ⟨h.os, h.tape, h.output, h.size, h.block⟩
theorem But.drewR {b : Nat} {w w' : World} (h : But b w w') (q : Nat) : But b w (w'.drewN q) := ⟨h.os, h.tape, h.output, h.size, h.block⟩
theorem But.ofBelow {b : Nat} {w w' : World} (h : Below w.heap.size w w') : But b w w' := ⟨h.os, h.tape, h.output, h.size, fun k hk _ => h.block k hk⟩
theorem pow7 (k : Nat) : (2 : Nat) ^ (7 * k) = 128 ^ k := by rw [Nat.pow_mul]
theorem pow_le {k : Nat} (h : k ≤ 9) : 128 ^ k ≤ 9223372036854775808 := Nat.le_trans (Nat.pow_le_pow_right (by decide) h) (by decide)

end Go.Proofs.YtfldcmdhneegmaaGreatDoor
