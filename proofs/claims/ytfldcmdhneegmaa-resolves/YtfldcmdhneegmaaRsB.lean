/-
  package slices' WALK of Backward at rows of rows of bytes.
-/
import Derived.Test.YtfldcmdhneegmaaFrC
import Derived.RangeFuncNested
import Derived.RangeFuncBound
import Derived.RangeFuncCalls
import Derived.RangeFuncLeaves
import Derived.RangeFuncBox
import Derived.Shelf.Abstract
import Derived.Shelf.RegionOpen
import Derived.WalkKit
import Derived.OwnWalkIn
import Derived.TacticsInMore
import Derived.LoopNIn
import Derived.LoopIn
namespace Go.Proofs.Ytfldcmdhneegmaa
open Go.RowKit Go.Lib Go.Shelf

attribute [local go_sem] Oper.semAt_some

/-- A block of bytes. -/
def U8 (w : World) (i : Nat) : Prop := ∃ c fz, w.heap[i]? = some (.cells c 5 fz)
/-- A state that is kept: its row in memory, its bytes. -/
def StAt (w : World) (c : Value) (x : List UInt8) : Prop := c ≠ .slice none 0 0 ∧ BytesAt (U8 w) w c x ∧ 5 ≤ x.length ∧ x.length ≤ 400000
/-- What Backward hands out: an index, a row, its bytes. -/
abbrev Item (w : World) := { x : Nat × Value × List UInt8 // StAt w x.2.1 x.2.2 }
abbrev itemVals (w : World) (x : Item w) : Array Value := #[.int .i64 (x.1.1 : Int), x.1.2.1]

set_option maxRecDepth 100000 in
set_option maxHeartbeats 2000000 in
theorem backward1_in (F : Fence) (n : Nat) (h7 : F.fn 39) (hro : F.round = none) (hn : 1 ≤ n) (l Bs n₀ b off cap : Nat) (w0 : World) (zs : List (Item w0)) (hlen : zs.length ≤ 1000) (hb : b < n₀) (hBn : Bs < n₀) (J Jx : List (Item w0) → World → Prop)
    (hY : ∀ pre x W, J pre W → pre.length < zs.length → YieldAt F (n - 1) Try.prog l (itemVals w0 x) W fun e W' =>
      (e = .returned (.bool true) ∧ J (pre ++ [x]) W' ∧ Below n₀ W W') ∨ (e = .returned (.bool false) ∧ Jx (pre ++ [x]) W'))
    (W : World) (hBs : W.cell? ⟨Bs, 0, none⟩ = some (.slice (some ⟨b, off, none⟩) zs.length cap))
    (hc : ∀ j (hj : j < zs.length), zs[j].1.1 + j + 1 = zs.length ∧ W.cell? ⟨b, off + zs[j].1.1, none⟩ = some zs[j].1.2.1) (h0 : J [] W) :
    CallsIn F n Try.prog 39 #[.func (.yield l) #[] #[], .pointer (some ⟨Bs, 0, none⟩)] W fun e W' => (∃ v, e = .returned v) ∧
      ((∃ ys, ys = zs ∧ J ys W') ∨ (∃ pre, pre <+: zs ∧ Jx pre W')) := by
  refine callsIn_of_wp Try.func39 rfl h7 ?_ hro
  simp only [Try.ntmps39, List.size_toArray, List.length_cons, List.length_nil, Nat.reduceAdd, Nat.reduceSub, Array.replicate_succ, Array.replicate_zero, List.push_toArray, List.append_toArray, List.nil_append, List.cons_append]
  gi_wp2
  gi_loopw [3] (fun i wr => ∃ k : Nat, k ≤ zs.length ∧ i = .int .i64 ((zs.length : Int) - 1 - k) ∧ J (zs.take k) wr ∧ Below n₀ W wr)
    (fun i _ => ((intOf i) + 1).toNat)
  case atStart => exact ⟨0, Nat.zero_le _, by simp, by simpa using h0, Below.refl _ _⟩
  case round =>
    obtain ⟨k, hk, rfl, hJs, hnx⟩ := hrel
    have hBs' := (hnx.cell (p := ⟨Bs, 0, none⟩) hBn).trans hBs
    by_cases hlt : k < zs.length
    · obtain ⟨⟨⟨i0, c0, y0⟩, hx0⟩, hz⟩ : ∃ x, zs[k] = x := ⟨_, rfl⟩
      obtain ⟨hi0, hcx⟩ := hc k hlt
      rw [hz] at hi0 hcx
      simp only [] at hi0 hcx
      have hcx' := (hnx.cell (p := ⟨b, off + i0, none⟩) hb).trans hcx
      have hi : (zs.length : Int) - 1 - k = (i0 : Int) := by omega
      have hil : (i0 : Int) < (zs.length : Int) := by omega
      have hi1 : (0 : Int) ≤ (i0 : Int) := by omega
      rw [hi]
      obtain ⟨fn, tmps, assign, body, hy, hR⟩ := hY _ ⟨(i0, c0, y0), hx0⟩ wr hJs (by rw [List.length_take]; omega)
      dsimp only [itemVals] at hy
      have hts : zs.take k ++ [⟨(i0, c0, y0), hx0⟩] = zs.take (k + 1) := by rw [List.take_add_one, List.getElem?_eq_getElem hlt, hz]; rfl
      gi_wp2
      refine hR.mono ?_
      rintro e W3 (⟨rfl, hJ3, hk3⟩ | ⟨rfl, hJx3⟩)
      · rw [hts] at hJ3
        gi_wp2
        go_roundw
        case rel => exact ⟨k + 1, by omega, by rw [← hi]; congr 1; omega, hJ3, hnx.trans hk3⟩
        case measure => simp [intOf]
      · rw [hts] at hJx3
        gi_wp2
        refine bodyPost_ret (results_none rfl _ _ _) rfl ?_
        exact ⟨⟨_, rfl⟩, .inr ⟨_, List.take_prefix _ _, hJx3⟩⟩
    · obtain rfl : k = zs.length := by omega
      have hng : ((zs.length : Int) - 1 - (zs.length : Int)) = -1 := by omega
      rw [hng]
      gi_wp2
      go_end0
      exact ⟨⟨_, rfl⟩, .inl ⟨_, rfl, by simpa using hJs⟩⟩

set_option maxRecDepth 100000 in
set_option maxHeartbeats 1000000 in
/-- .. at the nil row: no round. -/
theorem backward1_nil_in (F : Fence) (n : Nat) (h7 : F.fn 39) (hro : F.round = none) (l Bs : Nat) (w0 : World) (J : List (Item w0) → World → Prop) (W : World) (hBs : W.cell? ⟨Bs, 0, none⟩ = some (.slice none 0 0)) (h0 : J [] W) :
    CallsIn F n Try.prog 39 #[.func (.yield l) #[] #[], .pointer (some ⟨Bs, 0, none⟩)] W fun e W' => (∃ v, e = .returned v) ∧ J [] W' := by
  refine callsIn_of_wp Try.func39 rfl h7 ?_ hro
  simp only [Try.ntmps39, List.size_toArray, List.length_cons, List.length_nil, Nat.reduceAdd, Nat.reduceSub, Array.replicate_succ, Array.replicate_zero, List.push_toArray, List.append_toArray, List.nil_append, List.cons_append]
  gi_wp2
  gi_loopw [3] (fun i wr => i = .int .i64 (-1) ∧ J [] wr) (fun _ _ => 0)
  case atStart => exact ⟨rfl, h0⟩
  case round =>
    obtain ⟨rfl, hJs⟩ := hrel
    gi_wp2
    go_end0
    exact ⟨⟨_, rfl⟩, hJs⟩

set_option maxHeartbeats 1000000 in
/-- Backward: the row's value is boxed; the function value captures the box. -/
theorem backward_any (a : Option Addr) (n c : Nat) (w : World) :
    Calls Try.prog 27 #[.slice a n c] w fun e w' => e = .returned (.func (.func 39) #[] #[.pointer (some ⟨w.heap.size, 0, none⟩)]) ∧ w' = w.alloc (.cells #[.slice a n c] 23) := by
  have hmf : ∀ (fn : Fn) (first cap : Array Value) (w : World), (Instr.makeFunc fn first cap).run Try.prog w = .ok (.func fn first cap) w := fun _ _ _ _ => rfl
  go_enter Try.func27, Try.ntmps27
  go_wp2
  go_ret
  exact ⟨rfl, rfl⟩

/-- The row that Backward goes through, as its items. -/
def ItemsAt (n₀ : Nat) (w0 W : World) (v : Value) (zs : List (Item w0)) : Prop :=
  (v = .slice none 0 0 ∧ zs = []) ∨ ∃ b off cap, v = .slice (some ⟨b, off, none⟩) zs.length cap ∧ b < n₀ ∧ ∀ j (hj : j < zs.length), zs[j].1.1 + j + 1 = zs.length ∧ W.cell? ⟨b, off + zs[j].1.1, none⟩ = some zs[j].1.2.1
theorem ItemsAt.below {n₀ : Nat} {w0 A B : World} {v : Value} {zs : List (Item w0)} (h : Below n₀ A B) : ItemsAt n₀ w0 A v zs → ItemsAt n₀ w0 B v zs
  | .inl e => .inl e
  | .inr ⟨b, off, cap, e, hb, hc⟩ => .inr ⟨b, off, cap, e, hb, fun j hj => ⟨(hc j hj).1, (h.cell (p := ⟨b, off + zs[j].1.1, none⟩) hb).trans (hc j hj).2⟩⟩

theorem backward_stops (F : Fence) (n : Nat) (h7 : F.fn 39) (hro : F.round = none) (hn : 1 ≤ n) (Bs n₀ : Nat) (v : Value) (w0 : World) (zs : List (Item w0)) (hlen : zs.length ≤ 1000) (w : World) (hBs : Bs < n₀) (hn₀ : n₀ ≤ w.heap.size)
    (hc : w.cell? ⟨Bs, 0, none⟩ = some v) (hI : ItemsAt n₀ w0 w v zs) :
    SeqStopsK F n Try.prog 39 #[.pointer (some ⟨Bs, 0, none⟩)] (itemVals w0) (Below n₀) (fun ys => ys = zs) (fun pre => pre <+: zs) zs.length w := fun l J Jx W hW _ _ hY h0 => by
  have hW' := hW.mono hn₀
  have hc' := (hW'.cell (p := ⟨Bs, 0, none⟩) hBs).trans hc
  rcases hI.below hW' with ⟨rfl, rfl⟩ | ⟨b, off, cap, rfl, hb, hcs⟩
  · exact (backward1_nil_in F n h7 hro l Bs w0 J W hc' h0).mono fun e W' ⟨he, hj⟩ => ⟨he, .inl ⟨_, rfl, hj⟩⟩
  · exact backward1_in F n h7 hro hn l Bs n₀ b off cap w0 zs hlen hb hBs J Jx hY W hc' hcs h0

end Go.Proofs.Ytfldcmdhneegmaa
