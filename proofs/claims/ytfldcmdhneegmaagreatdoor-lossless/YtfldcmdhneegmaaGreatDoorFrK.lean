import Derived.Test.YtfldcmdhneegmaaGreatDoorZ58
import Derived.Test.YtfldcmdhneegmaaGreatDoorZ04

/-
  package frame's Writer, and what it leaves alone: all blocks but rows of bytes and writers.
-/
namespace Go.Proofs.YtfldcmdhneegmaaGreatDoor
open Go.RowKit Go.Lib

def WKept (w w' : World) : Prop := w.heap.size ≤ w'.heap.size ∧ ∀ (k : Nat) (c : Array Value) (t : TypeId) (fz : Nat × Nat), w.heap[k]? = some (Obj.cells c t fz) → t ≠ 5 → t ≠ 220 → w'.heap[k]? = some (Obj.cells c t fz)
theorem WKept.refl (w : World) : WKept w w := ⟨Nat.le_refl _, fun _ _ _ _ h _ _ => h⟩
theorem WKept.trans {w w1 w2 : World} (h : WKept w w1) (h' : WKept w1 w2) : WKept w w2 := ⟨Nat.le_trans h.1 h'.1, fun k c t fz e h1 h2 => h'.2 k c t fz (h.2 k c t fz e h1 h2) h1 h2⟩
theorem WKept.below {w w' : World} (h : Below w.heap.size w w') : WKept w w' := ⟨h.size, fun k _ _ _ e _ _ => (h.block k (lt_of_block e)).trans e⟩
theorem WKept.puts {base b : Nat} {w1 w2 : World} {l : List UInt8} {v v' : Value} (hbk : w1.heap[b]? = some (.cells #[v] 220 (0, 0))) (hown : w1.ownsRow base 5 1 v l.length (byteCells l)) (hg : w1.grownBy w2 v.ownBlock) : WKept w1 (w2.setCell ⟨b, 0, none⟩ v') := by
  have hs := grown_set w2 b 0 v'
  refine ⟨Nat.le_trans hg.size hs.size, fun k c t fz e h1 h2 => ?_⟩
  have hlt := lt_of_block e
  have hkb : k ≠ b := fun e1 => by
    rw [e1, hbk] at e
    cases e
    exact h2 rfl
  have hkv : some k ≠ v.ownBlock := fun e1 => by
    obtain ⟨-, c', fz', e2⟩ := own_block hown k e1.symm
    rw [e] at e2
    cases e2
    exact h1 rfl
  rw [hs.block k (Nat.lt_of_lt_of_le hlt hg.size) (fun e1 => hkb (Option.some.inj e1)), hg.block k hlt hkv]
  exact e
theorem WKept.put {base b : Nat} {w1 w2 : World} {l : List UInt8} {v v' : Value} {o : Obj} (hbk : w1.heap[b]? = some (.cells #[v] 220 (0, 0))) (hown : w1.ownsRow base 5 1 v l.length (byteCells l)) (hg : (w1.alloc o).grownBy w2 v.ownBlock) : WKept w1 (w2.setCell ⟨b, 0, none⟩ v') :=
  WKept.puts hbk hown (grown_alloc hg)

set_option maxHeartbeats 2000000 in
set_option maxRecDepth 1000000 in
theorem wNumber_k (base b : Nat) (l : List UInt8) (n : Nat) (w : World) (h : WrAt base w b l) (hn : n < 18446744073709551616) (hl : l.length ≤ 100000000) (hbw : base ≤ w.heap.size) :
    Calls Tryz.prog 125 #[.pointer (some ⟨b, 0, none⟩), .int .u64 n] w fun e w' => e = .returned (.tuple #[]) ∧ WrAt base w' b (l ++ Fr.num n) ∧ Below base w w' ∧ WKept w w' := by
  go_enter Tryz.func125, Tryz.ntmps125
  go_wp2
  go_loopw [1] (fun m wr => ∃ (u : Nat) (acc : List UInt8), u < 18446744073709551616 ∧ m = .int .u64 u ∧ Hid (acc ++ Fr.num u = l ++ Fr.num n ∧ WrAt base wr b acc ∧ Below base w wr ∧ WKept w wr)) (fun m _ => (intOf m).toNat)
  case atStart => exact ⟨n, l, hn, rfl, rfl, h, Below.refl _ _, WKept.refl _⟩
  case round =>
    obtain ⟨u, acc, hu, rfl, hr⟩ := hrel
    have ha : acc.length ≤ 100000010 := by
      have h1 := congrArg List.length hr.out.1
      have h2 := Fr.num_length64 hn
      rw [List.length_append, List.length_append] at h1
      omega
    obtain ⟨v, hbk, hown, hbb⟩ := hr.out.2.1
    obtain ⟨c0, f0⟩ := one_cell hbk
    obtain ⟨i0, hi, hz0, hz1, hz2⟩ := info_parts Tryz.infoByteW
    by_cases h10 : 128 ≤ u
    · have h10' : (128 : Int) ≤ (u : Int) := by omega
      have hbo := or_byte u
      obtain ⟨xb, hxb, hx⟩ : ∃ xb : UInt8, UInt8.ofNat (u % 128 + 128) = xb ∧ (xb.toNat : Int) = ((u % 128 + 128 : Nat) : Int) := ⟨_, rfl, by rw [Fr.toNat_ofNat (by omega)]⟩
      rw [← hx] at hbo
      have HXB := hid hxb
      clear hx hxb
      have HR := hid hr.out
      clear hr
      go_wp2_with (at_builtin; refine wpList_append_row rfl _ _ 25 rfl base 5 i0 (.int .u8 0) 1 1 Tryz.underlying25 hi hz0 hz1 hz2 rfl (by decide) _ _ _ rfl (hown.alloc _) (fun _ => True) _ 1 [.int .u8 xb.toNat] rfl (one_row (new_at rfl)) (by intro u hu; simp at hu; subst hu; rfl) (by unfold maxLen; omega) (by omega) (by have := HR.out.2.2.1.size; simp; omega) ?_)
      intro v' w2 hown' hg
      obtain ⟨hb2, hput, hbel⟩ := WrAt.put hbk hown hbb HR.out.2.2.1 hbw hown' hg
      obtain ⟨d0, g0⟩ := one_cell hb2
      have hk2 := HR.out.2.2.2.trans (WKept.put (v' := v') hbk hown hg)
      obtain ⟨a1, p1, rfl⟩ := own_slice hown'
      have HP := hid (And.intro hput (And.intro hbel hk2))
      clear hown' hg hput hbel hk2
      go_wp2
      go_roundw
      case rel =>
        refine ⟨u / 128, acc ++ [xb], by omega, by go_num, ?_, HP.out.1, HP.out.2.1, HP.out.2.2⟩
        rw [← HR.out.1, Fr.num_great (n := u) (by omega), HXB.out]
        simp
      case measure => simp [intOf]; omega
    · have h10' : ¬ (128 : Int) ≤ (u : Int) := by omega
      have hx : ((UInt8.ofNat u).toNat : Int) = (u : Int) := by rw [Fr.toNat_ofNat (by omega)]
      have HX := hid hx
      clear hx
      have HR := hid hr.out
      clear hr
      go_wp2_with (at_builtin; refine wpList_append_row rfl _ _ 25 rfl base 5 i0 (.int .u8 0) 1 1 Tryz.underlying25 hi hz0 hz1 hz2 rfl (by decide) _ _ _ rfl (hown.alloc _) (fun _ => True) _ 1 [.int .u8 (u : Int)] rfl (one_row (new_at rfl)) (by intro u hu; simp at hu; subst hu; rfl) (by unfold maxLen; omega) (by omega) (by have := HR.out.2.2.1.size; simp; omega) ?_)
      intro v' w2 hown' hg
      rw [← HX.out] at hown'
      obtain ⟨hb2, hput, hbel⟩ := WrAt.put hbk hown hbb HR.out.2.2.1 hbw hown' hg
      obtain ⟨d0, g0⟩ := one_cell hb2
      have hk2 := HR.out.2.2.2.trans (WKept.put (v' := v') hbk hown hg)
      obtain ⟨a1, p1, rfl⟩ := own_slice hown'
      have HP := hid (And.intro hput (And.intro hbel hk2))
      clear hown' hg hput hbel hk2
      go_wp2
      go_end0
      refine ⟨rfl, ?_, HP.out.2.1, HP.out.2.2⟩
      have := HR.out.1
      rw [Fr.num_small (n := u) (by omega)] at this
      rw [← this]
      exact HP.out.1

set_option maxHeartbeats 1000000 in
theorem wCount_k (base b : Nat) (l : List UInt8) (n : Nat) (w : World) (h : WrAt base w b l) (hn : n < 9223372036854775808) (hl : l.length ≤ 100000000) (hbw : base ≤ w.heap.size) :
    Calls Tryz.prog 79 #[.pointer (some ⟨b, 0, none⟩), .int .i64 n] w fun e w' => e = .returned (.tuple #[]) ∧ WrAt base w' b (l ++ Fr.num n) ∧ Below base w w' ∧ WKept w w' := by
  have HC := hid (wNumber_k base b l n w h (by omega) hl hbw)
  clear h
  go_enter Tryz.func79, Tryz.ntmps79
  go_wp2_with (go_at_call 125; refine HC.out.mono ?_; rintro e w1 ⟨rfl, h1, h2⟩; have HB := hid (And.intro h1 h2); clear h1 h2)
  go_end0
  exact ⟨rfl, HB.out.1, HB.out.2⟩

set_option maxHeartbeats 1000000 in
theorem wMoment_k (base b : Nat) (l : List UInt8) (t : Int) (w : World) (h : WrAt base w b l) (h1 : -9223372036854775808 ≤ t) (h2 : t < 9223372036854775808) (hl : l.length ≤ 100000000) (hbw : base ≤ w.heap.size) :
    Calls Tryz.prog 78 #[.pointer (some ⟨b, 0, none⟩), .int .i64 t] w fun e w' => e = .returned (.tuple #[]) ∧ WrAt base w' b (l ++ Fr.mom t) ∧ Below base w w' ∧ WKept w w' := by
  have HC := hid (wNumber_k base b l (Fr.zig t) w h (Fr.zig_lt h1 h2) hl hbw)
  clear h
  by_cases h0 : t < 0
  · have hn := u64_not (2 * t + 18446744073709551616).toNat (by omega)
    have e2 : ((18446744073709551615 - (2 * t + 18446744073709551616).toNat : Nat) : Int) = Fr.zig t := by unfold Fr.zig; rw [if_neg (by omega)]; omega
    have e3 : (((2 * t + 18446744073709551616).toNat : Nat) : Int) = IntKind.u64.wrap (IntKind.u64.wrap t * 2) := by
      simp only [IntKind.wrap, IntKind.bits, IntKind.signed]
      simp
      omega
    rw [e2, e3] at hn
    have hm : IntKind.u64.max = 18446744073709551615 := by decide
    have HN : Hid (bits .xor .u64 IntKind.u64.max (IntKind.u64.wrap (IntKind.u64.wrap t * 2)) = Fr.zig t) := by rw [hm]; exact hn
    clear hn e2 e3 hm
    go_enter Tryz.func78, Tryz.ntmps78
    go_wp2_with (go_at_call 125; rw [HN.out]; refine HC.out.mono ?_; rintro e w1 ⟨rfl, h1, h2⟩; have HB := hid (And.intro h1 h2); clear h1 h2)
    go_end0
    exact ⟨rfl, HB.out.1, HB.out.2⟩
  · have HN : Hid (t * 2 = Fr.zig t) := by
      unfold Hid Fr.zig
      rw [if_pos (by omega)]
      omega
    go_enter Tryz.func78, Tryz.ntmps78
    go_wp2_with (go_at_call 125; rw [HN.out]; refine HC.out.mono ?_; rintro e w1 ⟨rfl, h1, h2⟩; have HB := hid (And.intro h1 h2); clear h1 h2)
    go_end0
    exact ⟨rfl, HB.out.1, HB.out.2⟩

set_option maxHeartbeats 2000000 in
set_option maxRecDepth 1000000 in
theorem wText_k (base b : Nat) (l t : List UInt8) (w : World) (h : WrAt base w b l) (hl : l.length ≤ 10000000) (ht : t.length ≤ 10000000) (hbw : base ≤ w.heap.size) :
    Calls Tryz.prog 76 #[.pointer (some ⟨b, 0, none⟩), .string ⟨t.toArray⟩] w fun e w' => e = .returned (.tuple #[]) ∧ WrAt base w' b (l ++ (Fr.num t.length ++ t)) ∧ Below base w w' ∧ WKept w w' := by
  have hs : (⟨t.toArray⟩ : ByteArray).size = t.length := by simp [ByteArray.size]
  have HC := hid (wCount_k base b l t.length w h (by omega) (by omega) hbw)
  clear h
  go_enter Tryz.func76, Tryz.ntmps76
  obtain ⟨i0, hi, hz0, hz1, hz2⟩ := info_parts Tryz.infoByteW
  have hnl := Fr.num_length64 (n := t.length) (by omega)
  go_wp2_with (first
    | (go_at_call 79; refine HC.out.mono ?_; rintro e w1 ⟨rfl, ⟨v1, hbk, hown, hbb⟩, h2⟩; obtain ⟨c0, f0⟩ := one_cell hbk; have HB := hid (And.intro hbk (And.intro hown h2)); clear hbk hown h2)
    | (at_builtin; refine Lib.wpList_append_own_string _ rfl _ _ 25 9 rfl base 5 i0 Tryz.underlying25 Tryz.underlying9 hi hz0 hz1 hz2 _ _ _ rfl HB.out.2.1 ⟨t.toArray⟩ rfl ?c3 ?c4 ?c5 ?_))
  case c3 => rw [hs, List.length_append]; unfold maxLen; omega
  case c4 => rw [hs, List.length_append]; omega
  case c5 => have := HB.out.2.2.1.size; omega
  intro v' w2 hown' hg _
  have hc : Lib.strCells ⟨t.toArray⟩ = byteCells t := by simp [Lib.strCells, byteCells]
  rw [hc] at hown'
  obtain ⟨hb2, hput, hbel⟩ := WrAt.puts (t := t) HB.out.1 HB.out.2.1 hbb HB.out.2.2.1 hbw (by simpa using hown') hg
  obtain ⟨d0, g0⟩ := one_cell hb2
  have hk2 := HB.out.2.2.2.trans (WKept.puts (v' := v') HB.out.1 HB.out.2.1 hg)
  obtain ⟨a1, p1, rfl⟩ := own_slice hown'
  have HP := hid (And.intro hput (And.intro hbel hk2))
  clear hown' hg hput hbel hc hk2
  go_wp2
  go_end0
  refine ⟨rfl, ?_, HP.out.2.1, HP.out.2.2⟩
  rw [← List.append_assoc]
  exact HP.out.1


end Go.Proofs.YtfldcmdhneegmaaGreatDoor
