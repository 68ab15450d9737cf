import Derived.Test.YtfldcmdhneegmabGreatDoorZ32
import Derived.Deep.RegionWith
import Derived.Defers
import Derived.Recover
import Derived.Test.YtfldcmdhneegmabGreatDoorZ09
import Derived.Deep.QuietTactic

/-
  package frame's WALKS, 3: open.
-/
namespace Go.Proofs.YtfldcmdhneegmabGreatDoor
open Go.RowKit Go.Lib

/-- What open answers. -/
def OpenEnd (F : Nat → Prop) (l : List UInt8) (kind : UInt8) (w : World) (e : Ending) (w' : World) : Prop :=
  Below w.heap.size w w' ∧
    match Fr.sound l kind with
    | some _ => ∃ v', e = .returned (.pointer (some ⟨w.heap.size, 0, none⟩)) ∧ RdAt w' w.heap.size v' 1 ∧ BytesAt F w' v' (l.take (l.length - 4))
    | none => BytesPanic e
theorem openEnd_no {F : Nat → Prop} {l : List UInt8} {kind : UInt8} {w w' : World} {e : Ending} (h : Fr.sound l kind = none) (hb : Below w.heap.size w w') (he : BytesPanic e) : OpenEnd F l kind w e w' := by
  unfold OpenEnd
  rw [h]
  exact ⟨hb, he⟩
/-- Where a callee panics in a region that draws, the region's walk wants one way left: this is it. -/
theorem ended_here {G : Prop} (P : Program) (w : World) (g : G) (_ : wpAny P .any #[] (fun _ _ _ => True) 0 #[] ⟨#[], []⟩ w) : G := g
theorem res_two {W : World} {b : Nat} {x y : Value} {t : TypeId} (h : W.heap[b]? = some (.cells #[x, y] t (0, 0))) : W.cell? ⟨b, 0, none⟩ = some x ∧ W.cell? ⟨b, 1, none⟩ = some y ∧ W.frozen? ⟨b, 0, none⟩ = false ∧ W.frozen? ⟨b, 1, none⟩ = false := by
  simp [World.cell?, World.frozen?, h]

set_option maxHeartbeats 2000000 in
set_option maxRecDepth 1000000 in
theorem fOpen_any (F : Nat → Prop) (v : Value) (l : List UInt8) (kind : UInt8) (w : World) (hv : BytesAt F w v l) (hl : l.length ≤ 1000000) :
    Calls Tryz.prog 88 #[.int .u8 kind.toNat, v] w (OpenEnd F l kind w) := by
  obtain ⟨ao, cap, rfl, hcap, -⟩ := RowAt.slice hv
  by_cases h5 : l.length < 5
  · have hn : Fr.sound l kind = none := by unfold Fr.sound; rw [if_neg (by rintro ⟨h, -⟩; omega)]
    have HX := hid hn
    have h4 : decide ((4 : Int) < (l.length : Int)) = false := decide_eq_false (by omega)
    have h4' : decide ((0 : Int) < (l.length : Int) - 4) = false := decide_eq_false (by omega)
    clear hn hv
    go_enter Tryz.func88, Tryz.ntmps88
    go_wp2_with (go_at_call_of 89 (Value.bool false); refine (fNeed_false w.heap.size 0 _ _ (by simp)).mono ?_; rintro e w2 ⟨rfl, hw⟩; subst hw)
    exact ⟨rfl, openEnd_no HX.out ((Below.refl _ _).alloc (Nat.le_refl _) _) ⟨_, _, rfl⟩⟩
  · have h4 : decide ((4 : Int) < (l.length : Int)) = true := decide_eq_true (by omega)
    have h4' : decide ((0 : Int) < (l.length : Int) - 4) = true := decide_eq_true (by omega)
    have hA : ∀ o, BytesAt F (w.alloc o) (.slice ao l.length cap) l := fun o => hv.below ((Below.refl _ _).alloc (Nat.le_refl _) _)
    obtain ⟨b1, o1, rfl, c1⟩ := BytesAt.get (hA (.cells #[.slice none 0 0, .int .i64 0] 180)) (i := 0) (by omega)
    simp only [Nat.add_zero] at c1
    by_cases hk : l[0] = kind
    · have hk' : (((l[0]'(by omega)).toNat : Int) == (kind.toNat : Int)) = true := by rw [hk]; simp
      have hS : Fr.sound l kind = if Fr.sum (l.take (l.length - 4)) = l.drop (l.length - 4) then some ((l.take (l.length - 4)).drop 1) else none := by
        have hh : l.head? = some kind := by
          cases l with
          | nil => simp at h5
          | cons b t => simpa using hk
        unfold Fr.sound
        by_cases c : Fr.sum (l.take (l.length - 4)) = l.drop (l.length - 4)
        · rw [if_pos c, if_pos ⟨by omega, hh, c⟩]
        · rw [if_neg c, if_neg (fun h => c h.2.2)]
      obtain ⟨a1, p1, hs1, hv1⟩ := hv.head ((l.length : Int) - 4) (l.length - 4) (by omega) (by omega) hcap
      have HV1 := hid hv1
      have HC1 := hid (fSum_any F _ (l.take (l.length - 4)) (w.alloc (.cells #[.slice none 0 0, .int .i64 0] 180)) (hv1.below ((Below.refl _ _).alloc (Nat.le_refl _) _)))
      have HC2 := hid (fSumOf_any F _ l (w.alloc (.cells #[.slice none 0 0, .int .i64 0] 180)) (hA _) (by omega) hl)
      clear hv hA hk hv1
      have c2 : (w.alloc (.cells #[.slice none 0 0, .int .i64 0] 180)).heap[w.heap.size]? = some (.cells #[.slice none 0 0, .int .i64 0] 180 (0, 0)) := heap_alloc_new w _
      have hB2 : Below w.heap.size w (w.alloc (.cells #[.slice none 0 0, .int .i64 0] 180)) := (Below.refl _ _).alloc (Nat.le_refl _) _
      have C2 := hid c2
      have HB2 := hid hB2
      clear c2 hB2
      have hd4 : (l.drop (l.length - 4)).length = 4 := by rw [List.length_drop]; omega
      have hsi := Fr.sum_iff (m := l.take (l.length - 4)) hd4
      by_cases hsum : Fr.sum (l.take (l.length - 4)) = l.drop (l.length - 4)
      · rw [if_pos hsum] at hS
        have hsd : ((Fr.sumN (l.take (l.length - 4)) : Int) == (Fr.val (l.drop (l.length - 4)) : Int)) = true := by rw [hsi.1 hsum]; simp
        have HS := hid hS
        clear hS hsum hsi hd4
        go_enter Tryz.func88, Tryz.ntmps88
        go_wp2_with (first
          | (go_at_call 78; refine HC1.out.mono ?_; rintro e w3 ⟨rfl, hw⟩; subst hw)
          | (go_at_call 83; refine HC2.out.mono ?_; rintro e w3 ⟨rfl, hw⟩; subst hw)
          | (go_at_call_of 89 (Value.bool true); refine (fNeed_true w.heap.size _ _).mono ?_; rintro e w2 ⟨rfl, hw⟩; subst hw))
        go_ret
        unfold OpenEnd
        rw [HS.out]
        exact ⟨(Below.refl _ _).alloc (Nat.le_refl _) _, _, rfl, heap_alloc_new w _, HV1.out.below ((Below.refl _ _).alloc (Nat.le_refl _) _)⟩
      · rw [if_neg hsum] at hS
        have hsd : ((Fr.sumN (l.take (l.length - 4)) : Int) == (Fr.val (l.drop (l.length - 4)) : Int)) = false := by
          simp
          intro e
          exact hsum (hsi.2 (by omega))
        have HS := hid hS
        clear hS hsum hsi hd4
        go_enter Tryz.func88, Tryz.ntmps88
        go_wp2_with (first
          | (go_at_call 78; refine HC1.out.mono ?_; rintro e w3 ⟨rfl, hw⟩; subst hw)
          | (go_at_call 83; refine HC2.out.mono ?_; rintro e w3 ⟨rfl, hw⟩; subst hw)
          | (go_at_call_of 89 (Value.bool true); refine (fNeed_true w.heap.size _ _).mono ?_; rintro e w2 ⟨rfl, hw⟩; subst hw)
          | (go_at_call_of 89 (Value.bool false); refine (fNeed_false w.heap.size 0 _ _ (by simp)).mono ?_; rintro e w4 ⟨rfl, hw⟩; subst hw))
        exact ⟨rfl, openEnd_no HS.out HB2.out ⟨_, _, rfl⟩⟩
    · have hk' : (((l[0]'(by omega)).toNat : Int) == (kind.toNat : Int)) = false := by
        simp
        intro e
        exact hk (UInt8.toNat_inj.1 (by omega))
      have hn : Fr.sound l kind = none := by
        unfold Fr.sound
        rw [if_neg]
        rintro ⟨-, h, -⟩
        apply hk
        cases l with
        | nil => simp at h5
        | cons b t => simpa using h
      have HX := hid hn
      clear hn hv hA hk
      go_enter Tryz.func88, Tryz.ntmps88
      go_wp2_with (first
        | (go_at_call_of 89 (Value.bool true); refine (fNeed_true w.heap.size _ _).mono ?_; rintro e w2 ⟨rfl, hw⟩; subst hw)
        | (go_at_call_of 89 (Value.bool false); refine (fNeed_false w.heap.size 0 _ _ (by simp)).mono ?_; rintro e w2 ⟨rfl, hw⟩; subst hw))
      exact ⟨rfl, openEnd_no HX.out ((Below.refl _ _).alloc (Nat.le_refl _) _) ⟨_, _, rfl⟩⟩

end Go.Proofs.YtfldcmdhneegmabGreatDoor

/-
  package frame's WALKS, 4: the Writer.
-/
namespace Go.Proofs.YtfldcmdhneegmabGreatDoor
open Go.RowKit Go.Lib

/-- The Writer in memory: its block, and a row of the call's own. -/
def WrAt (base : Nat) (w : World) (b : Nat) (l : List UInt8) : Prop :=
  ∃ v, w.heap[b]? = some (.cells #[v] 150 (0, 0)) ∧ w.ownsRow base 5 1 v l.length (byteCells l) ∧ base ≤ b
set_option maxRecDepth 100000 in
theorem or128 : ∀ x : Fin 256, x.val ||| 128 = x.val % 128 + 128 := by decide
theorem or_byte (u : Nat) : bits .or .u8 ((u : Int) % 256) 128 = ((u % 128 + 128 : Nat) : Int) := by
  have h1 := u8_or_nat (u % 256) 128 (by omega) (by omega)
  have h2 := or128 ⟨u % 256, by omega⟩
  simp only at h2
  rw [h2, show u % 256 % 128 = u % 128 by omega] at h1
  rw [← h1]
  rfl
/-- A byte more. -/
theorem WrAt.put {base b : Nat} {w w1 w2 : World} {l : List UInt8} {v v' : Value} {x : UInt8} {o : Obj} (hbk : w1.heap[b]? = some (.cells #[v] 150 (0, 0))) (hown : w1.ownsRow base 5 1 v l.length (byteCells l)) (hbb : base ≤ b) (hb1 : Below base w w1) (hbw : base ≤ w.heap.size)
    (hown' : w2.ownsRow base 5 1 v' (l.length + 1) (byteCells l ++ [.int .u8 x.toNat])) (hg : (w1.alloc o).grownBy w2 v.ownBlock) :
    w2.heap[b]? = some (.cells #[v] 150 (0, 0)) ∧ WrAt base (w2.setCell ⟨b, 0, none⟩ v') b (l ++ [x]) ∧ Below base w (w2.setCell ⟨b, 0, none⟩ v') := by
  have hlt : b < w1.heap.size := lt_of_block hbk
  have hne : some b ≠ v.ownBlock := fun e => by
    obtain ⟨-, c, fz, h⟩ := own_block hown b e.symm
    rw [hbk] at h
    cases h
  have hb2 : w2.heap[b]? = some (.cells #[v] 150 (0, 0)) := by
    rw [hg.block b (by simp; omega) hne, Below.heap_alloc _ _ _ hlt]
    exact hbk
  have hne' : ∀ g, v'.ownBlock = some g → g ≠ b := fun g e h => by
    obtain ⟨-, c, fz, h2⟩ := own_block hown' g e
    rw [h, hb2] at h2
    cases h2
  refine ⟨hb2, ⟨v', one_set hb2 v', ?_, hbb⟩, ?_⟩
  · have e1 : (l ++ [x]).length = l.length + 1 := by simp
    have e2 : byteCells (l ++ [x]) = byteCells l ++ [.int .u8 x.toNat] := by simp [byteCells]
    rw [e1, e2]
    exact ownsRow_setCell_other hown' (a := ⟨b, 0, none⟩) (fun e => hne' b e rfl) _
  · exact ((hb1.alloc (Nat.le_trans hbw hb1.size) o).grown hg (by have := hb1.size; simp; omega) (fun k hk => (own_block hown k hk).1)).setCell hbb _

set_option maxHeartbeats 2000000 in
set_option maxRecDepth 1000000 in
theorem wNumber_any (base b : Nat) (l : List UInt8) (n : Nat) (w : World) (h : WrAt base w b l) (hn : n < 18446744073709551616) (hl : l.length ≤ 100000000) (hbw : base ≤ w.heap.size) :
    Calls Tryz.prog 75 #[.pointer (some ⟨b, 0, none⟩), .int .u64 n] w fun e w' => e = .returned (.tuple #[]) ∧ WrAt base w' b (l ++ Fr.num n) ∧ Below base w w' := by
  go_enter Tryz.func75, Tryz.ntmps75
  go_wp2
  go_loopw [1] (fun m wr => ∃ (u : Nat) (acc : List UInt8), u < 18446744073709551616 ∧ m = .int .u64 u ∧ Hid (acc ++ Fr.num u = l ++ Fr.num n ∧ WrAt base wr b acc ∧ Below base w wr)) (fun m _ => (intOf m).toNat)
  case atStart => exact ⟨n, l, hn, rfl, rfl, h, Below.refl _ _⟩
  case round =>
    obtain ⟨u, acc, hu, rfl, hr⟩ := hrel
    have ha : acc.length ≤ 100000010 := by
      have h1 := congrArg List.length hr.out.1
      have h2 := Fr.num_length64 hn
      rw [List.length_append, List.length_append] at h1
      omega
    obtain ⟨v, hbk, hown, hbb⟩ := hr.out.2.1
    obtain ⟨c0, f0⟩ := one_cell hbk
    obtain ⟨i0, hi, hz0, hz1, hz2⟩ := info_parts Tryz.infoByteW
    by_cases h10 : 128 ≤ u
    · have h10' : (128 : Int) ≤ (u : Int) := by omega
      have hbo := or_byte u
      obtain ⟨xb, hxb, hx⟩ : ∃ xb : UInt8, UInt8.ofNat (u % 128 + 128) = xb ∧ (xb.toNat : Int) = ((u % 128 + 128 : Nat) : Int) := ⟨_, rfl, by rw [Fr.toNat_ofNat (by omega)]⟩
      rw [← hx] at hbo
      have HXB := hid hxb
      clear hx hxb
      have HR := hid hr.out
      clear hr
      go_wp2_with (at_builtin; refine wpList_append_row rfl _ _ 25 rfl base 5 i0 (.int .u8 0) 1 1 Tryz.underlying25 hi hz0 hz1 hz2 rfl (by decide) _ _ _ rfl (hown.alloc _) (fun _ => True) _ 1 [.int .u8 xb.toNat] rfl (one_row (new_at rfl)) (by intro u hu; simp at hu; subst hu; rfl) (by unfold maxLen; omega) (by omega) (by have := HR.out.2.2.size; simp; omega) ?_)
      intro v' w2 hown' hg
      obtain ⟨hb2, hput, hbel⟩ := WrAt.put hbk hown hbb HR.out.2.2 hbw hown' hg
      obtain ⟨d0, g0⟩ := one_cell hb2
      obtain ⟨a1, p1, rfl⟩ := own_slice hown'
      have HP := hid (And.intro hput hbel)
      clear hown' hg hput hbel
      go_wp2
      go_roundw
      case rel =>
        refine ⟨u / 128, acc ++ [xb], by omega, by go_num, ?_, HP.out.1, HP.out.2⟩
        rw [← HR.out.1, Fr.num_great (n := u) (by omega), HXB.out]
        simp
      case measure => simp [intOf]; omega
    · have h10' : ¬ (128 : Int) ≤ (u : Int) := by omega
      have hx : ((UInt8.ofNat u).toNat : Int) = (u : Int) := by rw [Fr.toNat_ofNat (by omega)]
      have HX := hid hx
      clear hx
      have HR := hid hr.out
      clear hr
      go_wp2_with (at_builtin; refine wpList_append_row rfl _ _ 25 rfl base 5 i0 (.int .u8 0) 1 1 Tryz.underlying25 hi hz0 hz1 hz2 rfl (by decide) _ _ _ rfl (hown.alloc _) (fun _ => True) _ 1 [.int .u8 (u : Int)] rfl (one_row (new_at rfl)) (by intro u hu; simp at hu; subst hu; rfl) (by unfold maxLen; omega) (by omega) (by have := HR.out.2.2.size; simp; omega) ?_)
      intro v' w2 hown' hg
      rw [← HX.out] at hown'
      obtain ⟨hb2, hput, hbel⟩ := WrAt.put hbk hown hbb HR.out.2.2 hbw hown' hg
      obtain ⟨d0, g0⟩ := one_cell hb2
      obtain ⟨a1, p1, rfl⟩ := own_slice hown'
      have HP := hid (And.intro hput hbel)
      clear hown' hg hput hbel
      go_wp2
      go_end0
      refine ⟨rfl, ?_, HP.out.2⟩
      have := HR.out.1
      rw [Fr.num_small (n := u) (by omega)] at this
      rw [← this]
      exact HP.out.1

theorem own_one {W : World} {g base : Nat} {e : TypeId} {x : Value} (h : W.heap[g]? = some (.cells #[x] e (0, 0))) (hb : base ≤ g) : W.ownsRow base e 1 (.slice (some ⟨g, 0, none⟩) 1 1) 1 [x] :=
  ⟨by simp, Or.inr ⟨g, 1, #[x], rfl, hb, h, Nat.le_refl _, by unfold maxLen; omega, by simp, by simp⟩⟩

set_option maxHeartbeats 1000000 in
theorem newWriter_any (kind : UInt8) (w : World) :
    Calls Tryz.prog 27 #[.int .u8 kind.toNat] w fun e w' => ∃ b, e = .returned (.pointer (some ⟨b, 0, none⟩)) ∧ WrAt w.heap.size w' b [kind] ∧ Below w.heap.size w w' := by
  go_enter Tryz.func27, Tryz.ntmps27
  go_wp2
  go_ret
  refine ⟨w.heap.size + 1, rfl, ⟨_, new_at (by simp), own_one ((Below.heap_alloc _ _ _ (by simp)).trans (new_at rfl)) (Nat.le_refl _), by omega⟩, ((Below.refl _ w).alloc (Nat.le_refl _) _).alloc (by simp) _⟩

end Go.Proofs.YtfldcmdhneegmabGreatDoor

/-
  package frame's WALKS: the Writer's Count and Moment.
-/
namespace Go.Proofs.YtfldcmdhneegmabGreatDoor
open Go.RowKit Go.Lib

set_option maxHeartbeats 1000000 in
theorem wCount_any (base b : Nat) (l : List UInt8) (n : Nat) (w : World) (h : WrAt base w b l) (hn : n < 9223372036854775808) (hl : l.length ≤ 100000000) (hbw : base ≤ w.heap.size) :
    Calls Tryz.prog 31 #[.pointer (some ⟨b, 0, none⟩), .int .i64 n] w fun e w' => e = .returned (.tuple #[]) ∧ WrAt base w' b (l ++ Fr.num n) ∧ Below base w w' := by
  have HC := hid (wNumber_any base b l n w h (by omega) hl hbw)
  clear h
  go_enter Tryz.func31, Tryz.ntmps31
  go_wp2_with (go_at_call 75; refine HC.out.mono ?_; rintro e w1 ⟨rfl, h1, h2⟩; have HB := hid (And.intro h1 h2); clear h1 h2)
  go_end0
  exact ⟨rfl, HB.out.1, HB.out.2⟩

set_option maxHeartbeats 1000000 in
theorem wMoment_any (base b : Nat) (l : List UInt8) (t : Int) (w : World) (h : WrAt base w b l) (h1 : -9223372036854775808 ≤ t) (h2 : t < 9223372036854775808) (hl : l.length ≤ 100000000) (hbw : base ≤ w.heap.size) :
    Calls Tryz.prog 30 #[.pointer (some ⟨b, 0, none⟩), .int .i64 t] w fun e w' => e = .returned (.tuple #[]) ∧ WrAt base w' b (l ++ Fr.mom t) ∧ Below base w w' := by
  have HC := hid (wNumber_any base b l (Fr.zig t) w h (Fr.zig_lt h1 h2) hl hbw)
  clear h
  by_cases h0 : t < 0
  · have hn := u64_not (2 * t + 18446744073709551616).toNat (by omega)
    have e2 : ((18446744073709551615 - (2 * t + 18446744073709551616).toNat : Nat) : Int) = Fr.zig t := by unfold Fr.zig; rw [if_neg (by omega)]; omega
    have e3 : (((2 * t + 18446744073709551616).toNat : Nat) : Int) = IntKind.u64.wrap (IntKind.u64.wrap t * 2) := by
      simp only [IntKind.wrap, IntKind.bits, IntKind.signed]
      simp
      omega
    rw [e2, e3] at hn
    have hm : IntKind.u64.max = 18446744073709551615 := by decide
    have HN : Hid (bits .xor .u64 IntKind.u64.max (IntKind.u64.wrap (IntKind.u64.wrap t * 2)) = Fr.zig t) := by rw [hm]; exact hn
    clear hn e2 e3 hm
    go_enter Tryz.func30, Tryz.ntmps30
    go_wp2_with (go_at_call 75; rw [HN.out]; refine HC.out.mono ?_; rintro e w1 ⟨rfl, h1, h2⟩; have HB := hid (And.intro h1 h2); clear h1 h2)
    go_end0
    exact ⟨rfl, HB.out.1, HB.out.2⟩
  · have HN : Hid (t * 2 = Fr.zig t) := by
      unfold Hid Fr.zig
      rw [if_pos (by omega)]
      omega
    go_enter Tryz.func30, Tryz.ntmps30
    go_wp2_with (go_at_call 75; rw [HN.out]; refine HC.out.mono ?_; rintro e w1 ⟨rfl, h1, h2⟩; have HB := hid (And.intro h1 h2); clear h1 h2)
    go_end0
    exact ⟨rfl, HB.out.1, HB.out.2⟩

end Go.Proofs.YtfldcmdhneegmabGreatDoor

/-
  package frame's WALKS: Read at bytes. Made by mkread.py.
-/
namespace Go.Proofs.YtfldcmdhneegmabGreatDoor
open Go.RowKit Go.Lib

set_option maxHeartbeats 1000000 in
theorem readB1_idle (p : Addr) (w : World) :
    CallsD Tryz.prog 149 #[.pointer (some p)] .returning w fun e u' w' => e = .returned (.tuple #[]) ∧ u' = .returning ∧ w' = w := by
  refine callsD_of_wpS Tryz.func149 rfl fun c₀ cs hu => ?_
  apply wpS_seq
  apply wpS_region
  simp [wpOpsS, go_sem, recoverD, hu, Tryz.ntmps149, Exit.thenS]
  refine wpS_of_wp ?_
  go_wp2
  cases c₀
  simp_all [bodyPostS, results, Tryz.results149]

theorem Tryz.assertBytesB (v : Value) (w : World) : (Instr.typeAssert (.iface 101 v) 20 101 true).run Tryz.prog w = .ok (.tuple #[v, .bool true]) w := by kernel_rfl

set_option maxHeartbeats 1000000 in
set_option maxRecDepth 100000 in
theorem readB1_caught (pb : Nat) (n : Int) (s : ByteArray) (older : List PanicEntry) (w : World) (u0 : Value) (hc : w.cell? ⟨pb, 0, none⟩ = some u0) (hz : w.frozen? ⟨pb, 0, none⟩ = false) :
    CallsD Tryz.prog 149 #[.pointer (some ⟨pb, 0, none⟩)] (.panicking ({ v := .iface 101 (.agg #[.int .i64 n, .string s]), recovered := false } :: older)) w fun e u' w' =>
      e = .returned (.tuple #[]) ∧ u' = .panicking ({ v := .iface 101 (.agg #[.int .i64 n, .string s]), recovered := true } :: older) ∧ ∃ o, w' = (w.setCell ⟨pb, 0, none⟩ (.iface 101 (.agg #[.int .i64 n, .string s]))).alloc o := by
  have hta := Tryz.assertBytesB (.agg #[.int .i64 n, .string s])
  have hlt : pb < w.heap.size := World.block_lt_of_cell? w ⟨pb, 0, none⟩ hc
  have hca : ∀ o, (w.alloc o).cell? ⟨pb, 0, none⟩ = some u0 := fun o => (World.cell?_alloc_lt w o ⟨pb, 0, none⟩ hlt).trans hc
  have hfa : ∀ o, (w.alloc o).frozen? ⟨pb, 0, none⟩ = false := fun o => (World.frozen?_alloc_old w o ⟨pb, 0, none⟩ (Nat.ne_of_lt hlt)).trans hz
  refine callsD_of_wpS Tryz.func149 rfl fun c₀ cs hu => ?_
  apply wpS_seq
  apply wpS_region
  simp [wpOpsS, go_sem, recoverD, hu, Tryz.ntmps149, Exit.thenS]
  refine wpS_of_wp ?_
  go_wp2
  simp [bodyPostS, results, Tryz.results149]
  exact ⟨_, rfl⟩

/-- What Read answers where the bytes are none: no engine, an error about the bytes. -/
def ReadNoB (w : World) (e : Ending) (w' : World) : Prop :=
  ∃ (n : Int) (s : ByteArray), e = .returned (.tuple #[.slice none 0 0, .iface 101 (.agg #[.int .i64 n, .string s])]) ∧ Below w.heap.size w w'

set_option maxHeartbeats 2000000 in
set_option maxRecDepth 1000000 in
/-- The door, met by a panic about the bytes. -/
theorem read_doorB {w w1 : World} {tmps : Array Value} {n : Int} {s : ByteArray} (h6 : tmps[6]?.getD undef = .slice none 0 0) (h7 : tmps[7]?.getD undef = .pointer (some ⟨w.heap.size, 0, none⟩)) (HB : Below (w.alloc (.cells #[.nilIface] 55)).heap.size (w.alloc (.cells #[.nilIface] 55)) w1) :
    bodyPostD Tryz.prog Tryz.f79 (ReadNoB w) (Exit.panic [{ v := .iface 101 (.agg #[.int .i64 n, .string s]), recovered := false }])
      { tmps := tmps, defers := [{ target := Target.fn (Fn.func 149) #[.pointer (some ⟨w.heap.size, 0, none⟩)], args := #[] }] } w1 := by
  have hc1 : w1.cell? ⟨w.heap.size, 0, none⟩ = some .nilIface := (cell_bel HB ⟨w.heap.size, 0, none⟩ (by simp)).trans (by simp)
  have hz1 : w1.frozen? ⟨w.heap.size, 0, none⟩ = false := (World.frozen?_of_block (a := ⟨w.heap.size, 0, none⟩) (HB.block w.heap.size (by simp))).trans (by simp)
  have hlt1 : w.heap.size < w1.heap.size := by have := HB.size; simp at this; omega
  refine leaves_cons (f := 149) (args := #[.pointer (some ⟨w.heap.size, 0, none⟩)]) (by simp) (by simp [go_sem]) ?_
  refine (readB1_caught w.heap.size n s [] _ .nilIface hc1 hz1).mono ?_
  rintro e u' w'' ⟨rfl, rfl, o, hw⟩
  have hc2 : w''.cell? ⟨w.heap.size, 0, none⟩ = some (.iface 101 (.agg #[.int .i64 n, .string s])) := by
    rw [hw, World.cell?_alloc_lt _ o ⟨w.heap.size, 0, none⟩ (by show _ < (w1.heap.modify _ _).size; rw [Array.size_modify]; exact hlt1)]
    exact World.cell?_setCell_same _ _ _ hc1
  have hb2 : Below w.heap.size w w'' := by
    rw [hw]
    exact ((((Below.refl _ w).alloc (Nat.le_refl _) _).trans (HB.mono (by simp))).setCell (Nat.le_refl _) _).alloc (by show _ ≤ (w1.heap.modify _ _).size; rw [Array.size_modify]; omega) _
  simp [Leaves, settle, results, Tryz.results79, go_sem, h6, h7, hc2]
  exact ⟨n, s, rfl, hb2⟩

set_option maxHeartbeats 2000000 in
set_option maxRecDepth 1000000 in
theorem readB_unsound (F : Nat → Prop) (v : Value) (l : List UInt8) (kind : UInt8) (rd : Value) (w : World) (hv : BytesAt F w v l) (hl : l.length ≤ 1000000) (hs : Fr.sound l kind = none) :
    Calls Tryz.prog 79 #[.int .u8 kind.toNat, v, rd] w (ReadNoB w) := by
  have hmf : ∀ (fn : Fn) (first cap : Array Value) (w : World), (Instr.makeFunc fn first cap).run Tryz.prog w = .ok (.func fn first cap) w := fun _ _ _ _ => rfl
  have HO := hid (fun o => fOpen_any F v l kind (w.alloc o) (hv.below ((Below.refl _ _).alloc (Nat.le_refl _) _)) hl)
  have HS := hid hs
  clear hv hs
  go_enter_defers Tryz.func79, Tryz.ntmps79
  go_wp2_with (go_at_call 88; refine (HO.out _).mono ?_; rintro e w1 ⟨hb, he⟩; rw [HS.out] at he; obtain ⟨n1, s1, rfl⟩ := he; have HB := hid hb; clear hb)
  exact read_doorB (n := n1) (s := s1) rfl rfl HB.out

/-- Read, where the reading itself ends by a panic about the bytes. -/
theorem read_belowB {w w1 w2 : World} {o : Obj} (h1 : Below (w.alloc o).heap.size (w.alloc o) w1) (h2 : Below (w.alloc o).heap.size w1 w2) : Below (w.alloc o).heap.size (w.alloc o) w2 := h1.trans h2
set_option maxHeartbeats 2000000 in
set_option maxRecDepth 1000000 in
theorem readB_panics (F : Nat → Prop) (v : Value) (l c : List UInt8) (kind : UInt8) (w : World) (hv : BytesAt F w v l) (hl : l.length ≤ 1000000) (hs : Fr.sound l kind = some c)
    (hr : ∀ (W : World) (v' : Value), Below (w.heap.size + 1) (w.alloc (.cells #[.nilIface] 55)) W → RdAt W (w.heap.size + 1) v' 1 → BytesAt F W v' (l.take (l.length - 4)) →
      Calls Tryz.prog 80 #[.pointer (some ⟨w.heap.size + 1, 0, none⟩)] W fun e w' => BytesPanic e ∧ Below (w.heap.size + 1) W w') :
    Calls Tryz.prog 79 #[.int .u8 kind.toNat, v, .func (.func 80) #[] #[]] w (ReadNoB w) := by
  have hmf : ∀ (fn : Fn) (first cap : Array Value) (w : World), (Instr.makeFunc fn first cap).run Tryz.prog w = .ok (.func fn first cap) w := fun _ _ _ _ => rfl
  have HO := hid (fun o => fOpen_any F v l kind (w.alloc o) (hv.below ((Below.refl _ _).alloc (Nat.le_refl _) _)) hl)
  have HS := hid hs
  have HR := hid hr
  clear hv hs hr
  go_enter_defers Tryz.func79, Tryz.ntmps79
  go_wp2_with (first
    | (go_at_call 88; refine (HO.out _).mono ?_; rintro e w1 ⟨hb, he⟩; rw [HS.out] at he; obtain ⟨v1, rfl, h1, h2⟩ := he; have HB := hid (And.intro hb (And.intro h1 h2)); clear hb h1 h2)
    | (go_at_call 80; refine (HR.out _ v1 (by simpa using HB.out.1) (by simpa using HB.out.2.1) HB.out.2.2).mono ?_; rintro e w2 ⟨⟨n2, s2, rfl⟩, hb2⟩; have HB2 := hid hb2; clear hb2))
  exact read_doorB (n := n2) (s := s2) rfl rfl (HB.out.1.trans (HB2.out.mono (by simp)))

set_option maxHeartbeats 2000000 in
set_option maxRecDepth 1000000 in
theorem readB_ok (F : Nat → Prop) (v : Value) (l c : List UInt8) (kind : UInt8) (w : World) (hv : BytesAt F w v l) (hl : l.length ≤ 1000000) (hs : Fr.sound l kind = some c) (P : Value → World → Prop)
    (hr : ∀ (W : World) (v' : Value), Below (w.heap.size + 1) (w.alloc (.cells #[.nilIface] 55)) W → RdAt W (w.heap.size + 1) v' 1 → BytesAt F W v' (l.take (l.length - 4)) →
      Calls Tryz.prog 80 #[.pointer (some ⟨w.heap.size + 1, 0, none⟩)] W fun e w' => ∃ r, e = .returned r ∧ RdAt w' (w.heap.size + 1) v' (l.length - 4) ∧ Below (w.heap.size + 1) W w' ∧ P r w') :
    Calls Tryz.prog 79 #[.int .u8 kind.toNat, v, .func (.func 80) #[] #[]] w fun e w' => ∃ r w2 q, e = .returned (.tuple #[r, .nilIface]) ∧ w' = (w2.drewN q).setCell ⟨w.heap.size, 0, none⟩ .nilIface ∧ P r w2 ∧ Below w.heap.size w w2 := by
  have hmf : ∀ (fn : Fn) (first cap : Array Value) (w : World), (Instr.makeFunc fn first cap).run Tryz.prog w = .ok (.func fn first cap) w := fun _ _ _ _ => rfl
  have h5 : 5 ≤ l.length := by
    unfold Fr.sound at hs
    split at hs
    · rename_i h; exact h.1
    · cases hs
  have HO := hid (fun o => fOpen_any F v l kind (w.alloc o) (hv.below ((Below.refl _ _).alloc (Nat.le_refl _) _)) hl)
  have HS := hid hs
  have HR := hid hr
  clear hv hs hr
  go_enter_defers Tryz.func79, Tryz.ntmps79
  go_wp2_with (first
    | (go_at_call 88; refine (HO.out _).mono ?_; rintro e w1 ⟨hb, he⟩; rw [HS.out] at he; obtain ⟨v1, rfl, h1, h2⟩ := he; obtain ⟨a1, p1, rfl, -, -⟩ := RowAt.slice h2; have HB := hid (And.intro hb (And.intro h1 h2)); clear hb h1 h2)
    | (go_at_call 80; refine (HR.out _ _ (by simpa using HB.out.1) (by simpa using HB.out.2.1) HB.out.2.2).mono ?_; rintro e w2 ⟨r2, rfl, hr2, hb2, hp2⟩; have c0 := hr2.c0; have c1 := hr2.c1; have HB2 := hid (And.intro hb2 (And.intro hp2 hr2)); clear hb2 hp2 hr2))
  have hb3 : Below (w.heap.size + 1) (w.alloc (.cells #[.nilIface] 55)) w2 := (show Below (w.heap.size + 1) (w.alloc (.cells #[.nilIface] 55)) w1 by simpa using HB.out.1).trans HB2.out.1
  have e0 : w2.cell? ⟨w.heap.size, 0, none⟩ = some .nilIface := (cell_bel hb3 ⟨w.heap.size, 0, none⟩ (by simp)).trans (by simp)
  have ez : w2.frozen? ⟨w.heap.size, 0, none⟩ = false := (World.frozen?_of_block (a := ⟨w.heap.size, 0, none⟩) (hb3.block w.heap.size (by simp))).trans (by simp)
  have HB3 := hid hb3
  clear hb3
  have hlen : (l.take (l.length - 4)).length = l.length - 4 := by rw [List.length_take]; omega
  rw [hlen] at c0
  go_quiet ((go_at_call 89; exact Calls.quiet_of_same (fNeed_true _ _ _)))
  go_wp2
  refine leaves_cons (f := 149) (args := #[.pointer (some ⟨w.heap.size, 0, none⟩)]) (by simp) (by simp [go_sem]) ?_
  refine (readB1_idle ⟨w.heap.size, 0, none⟩ _).mono ?_
  rintro e u' w'' ⟨rfl, rfl, rfl⟩
  have hc2 : ((w2.drewN nq).setCell ⟨w.heap.size, 0, none⟩ .nilIface).cell? ⟨w.heap.size, 0, none⟩ = some .nilIface := World.cell?_setCell_same _ _ _ (show (w2.drewN nq).cell? ⟨w.heap.size, 0, none⟩ = some .nilIface from e0)
  simp [Leaves, settle, results, Tryz.results79, go_sem, hc2]
  exact ⟨w2, ⟨nq, rfl⟩, HB2.out.2.1, ((Below.refl _ w).alloc (Nat.le_refl _) _).trans (HB3.out.mono (by omega))⟩

end Go.Proofs.YtfldcmdhneegmabGreatDoor

/-
  package frame's WALKS: Rest, Check.
-/
namespace Go.Proofs.YtfldcmdhneegmabGreatDoor
open Go.RowKit Go.Lib

theorem But.belowB {b B : Nat} {w w' : World} (h : But b w w') (hb : B ≤ b) (hw : B ≤ w.heap.size) : Below B w w' := ⟨h.os, h.tape, h.output, h.size, fun i hi => h.block i (by omega) (by intro e; cases e; omega)⟩
set_option maxHeartbeats 1000000 in
set_option maxRecDepth 1000000 in
theorem fRest_any (F : Nat → Prop) (v : Value) (l : List UInt8) (b k : Nat) (w : World) (hr : RdAt w b v k) (hv : BytesAt F w v l) (h0 : 0 < l.length) (hk : k ≤ l.length) :
    Calls Tryz.prog 80 #[.pointer (some ⟨b, 0, none⟩)] w fun e w' => ∃ r, e = .returned r ∧ r ≠ .slice none 0 0 ∧ (¬ F b → BytesAt F w' r (l.drop k)) ∧ RdAt w' b v l.length ∧ But b w w' := by
  obtain ⟨ao, cap, rfl, -, -⟩ := RowAt.slice hv
  obtain ⟨b1, o1, rfl, -⟩ := BytesAt.get hv h0
  obtain ⟨v2, hn2, hs2, hv2⟩ := hv.tail (k : Int) k rfl hk
  have c0 := hr.c0
  have c1 := hr.c1
  have f1 := hr.f 1
  have HR := hid hr
  have HV2 := hid hv2
  clear hr hv hv2
  go_enter Tryz.func80, Tryz.ntmps80
  go_wp2
  go_quiet (fail)
  go_wp2
  go_ret
  exact ⟨_, rfl, hn2, fun hF => BytesAt.but HV2.out ((but_set _ b 1 _).drew) hF, (show RdAt (w.drewN _) b _ k from HR.out).set _ l.length rfl, (but_set _ b 1 _).drew⟩

/-- What Check answers. -/
def CheckEnd (l : List UInt8) (kind : UInt8) (w : World) (e : Ending) (w' : World) : Prop :=
  Below w.heap.size w w' ∧ ((Fr.sound l kind).isSome = true → e = .returned .nilIface) ∧ ((Fr.sound l kind).isSome = false → ∃ (n : Int) (s : ByteArray), e = .returned (.iface 101 (.agg #[.int .i64 n, .string s])))
theorem sound_five {l : List UInt8} {kind : UInt8} {c : List UInt8} (h : Fr.sound l kind = some c) : 5 ≤ l.length := by
  unfold Fr.sound at h
  split at h
  · rename_i h'; exact h'.1
  · cases h

set_option maxHeartbeats 1000000 in
set_option maxRecDepth 1000000 in
theorem fCheck_any (F : Nat → Prop) (v : Value) (l : List UInt8) (kind : UInt8) (w : World) (hv : BytesAt F w v l) (hl : l.length ≤ 1000000) :
    Calls Tryz.prog 35 #[.int .u8 kind.toNat, v] w (CheckEnd l kind w) := by
  have hmf : ∀ (fn : Fn) (first cap : Array Value) (w : World), (Instr.makeFunc fn first cap).run Tryz.prog w = .ok (.func fn first cap) w := fun _ _ _ _ => rfl
  cases hs : Fr.sound l kind with
  | none =>
    have HC := hid (readB_unsound F v l kind (.func (.func 80) #[] #[]) w hv hl hs)
    have HS := hid hs
    clear hv hs
    go_enter Tryz.func35, Tryz.ntmps35
    go_wp2_with (go_at_call 79; refine HC.out.mono ?_; rintro e w1 ⟨n1, s1, rfl, hb⟩; have HB := hid hb; clear hb)
    go_ret
    exact ⟨HB.out, fun h => (by rw [HS.out] at h; cases h), fun _ => ⟨_, _, rfl⟩⟩
  | some c =>
    have h5 := sound_five hs
    have hlen : (l.take (l.length - 4)).length = l.length - 4 := by rw [List.length_take]; omega
    have HC := hid (readB_ok F v l c kind w hv hl hs (fun _ _ => True) (fun W v' hb hr hv' => (fRest_any F v' (l.take (l.length - 4)) (w.heap.size + 1) 1 W hr hv' (by omega) (by omega)).mono fun e w' ⟨r, he, _, _, h2, h3⟩ => ⟨r, he, by rw [hlen] at h2; exact h2, h3.belowB (Nat.le_refl _) (Nat.le_of_lt (lt_of_block hr)), trivial⟩))
    have HS := hid hs
    clear hv hs
    go_enter Tryz.func35, Tryz.ntmps35
    go_wp2_with (go_at_call 79; refine HC.out.mono ?_; rintro e w1 ⟨r1, w2, q2, rfl, hw, -, hb⟩; have HB := hid (And.intro hw hb); clear hw hb)
    go_ret
    refine ⟨?_, fun _ => rfl, fun h => (by rw [HS.out] at h; cases h)⟩
    rw [HB.out.1]
    exact (bel_drewN HB.out.2 _).setCell (Nat.le_refl _) _

end Go.Proofs.YtfldcmdhneegmabGreatDoor

/-
  package chain's WALKS: alike, alikeAtEnd.
-/
namespace Go.Proofs.YtfldcmdhneegmabGreatDoor
open Go.RowKit Go.Lib

theorem wrap_i64 {x : Int} (h1 : -9223372036854775808 ≤ x) (h2 : x ≤ 9223372036854775807) : IntKind.i64.wrap x = x := by
  simp only [IntKind.wrap, IntKind.bits, IntKind.signed]
  simp
  omega
theorem dre (w : World) (a b : Nat) : ∃ q, (w.drewN a).drewN b = w.drewN q := ⟨a + b, by rw [World.drewN_drewN]⟩
set_option maxHeartbeats 2000000 in
set_option maxRecDepth 1000000 in
theorem alike_any (F G : Nat → Prop) (v u : Value) (a b : List UInt8) (w : World) (hv : BytesAt F w v a) (hu : BytesAt G w u b) (ha : a.length ≤ 1000000) :
    Calls Tryz.prog 81 #[v, u] w fun e w' => e = .returned (.int .i64 (Fr.cp a b)) ∧ ∃ q, w' = w.drewN q := by
  obtain ⟨ao, ca, rfl, -, -⟩ := RowAt.slice hv
  obtain ⟨bo, cb, rfl, -, -⟩ := RowAt.slice hu
  have HV := hid hv
  have HU := hid hu
  clear hv hu
  go_enter Tryz.func81, Tryz.ntmps81
  go_wp2
  go_loopw [5] (fun i wr => ∃ k : Nat, k ≤ a.length ∧ k ≤ b.length ∧ i = .int .i64 k ∧ Hid (a.take k = b.take k ∧ ∃ q, wr = w.drewN q)) (fun i _ => a.length - (intOf i).toNat)
  case atStart => exact ⟨0, Nat.zero_le _, Nat.zero_le _, rfl, rfl, 0, rfl⟩
  case round =>
    obtain ⟨k, hka, hkb, rfl, hr⟩ := hrel
    obtain ⟨q, rfl⟩ := hr.out.2
    by_cases hla : k < a.length ∧ k < b.length
    · obtain ⟨h1, h2⟩ := hla
      have hm : decide ((k : Int) < if b.length < a.length then (b.length : Int) else (a.length : Int)) = true := decide_eq_true (by split <;> omega)
      obtain ⟨b1, o1, rfl, c1⟩ := HV.out.get h1
      obtain ⟨b2, o2, rfl, c2⟩ := HU.out.get h2
      have c1' : (w.drewN q).cell? ⟨b1, o1 + k, none⟩ = some (.int .u8 a[k].toNat) := c1
      have c2' : (w.drewN q).cell? ⟨b2, o2 + k, none⟩ = some (.int .u8 b[k].toNat) := c2
      by_cases he : a[k] = b[k]
      · have he' : ((a[k].toNat : Int) == (b[k].toNat : Int)) = true := by rw [he]; simp
        have HE := hid he
        clear he
        go_wp2
        go_quiet (fail)
        go_wp2
        all_goals
          go_roundw
          case rel =>
            refine ⟨k + 1, by omega, by omega, by go_num, ?_, by first | exact dre _ _ _ | exact ⟨_, rfl⟩⟩
            rw [List.take_add_one, List.take_add_one, hr.out.1, List.getElem?_eq_getElem h1, List.getElem?_eq_getElem h2, HE.out]
          case measure => simp [intOf]; omega
      · have he' : ((a[k].toNat : Int) == (b[k].toNat : Int)) = false := by
          simp
          intro e
          exact he (UInt8.toNat_inj.1 (by omega))
        have hcp := Fr.cp_stop a b k hr.out.1 hka hkb (fun _ _ => he)
        have HX := hid hcp
        clear hcp he
        go_wp2
        go_quiet (fail)
        go_wp2
        all_goals
          go_ret
          exact ⟨by rw [HX.out]; try rfl, by first | exact dre _ _ _ | exact ⟨_, rfl⟩⟩
    · have hm : decide ((k : Int) < if b.length < a.length then (b.length : Int) else (a.length : Int)) = false := decide_eq_false (by split <;> omega)
      have hcp := Fr.cp_stop a b k hr.out.1 hka hkb (fun h1 h2 => absurd ⟨h1, h2⟩ hla)
      have HX := hid hcp
      clear hcp
      go_wp2
      go_quiet (fail)
      go_wp2
      all_goals
        go_ret
        exact ⟨by rw [HX.out]; try rfl, by first | exact dre _ _ _ | exact ⟨_, rfl⟩⟩

set_option maxHeartbeats 2000000 in
set_option maxRecDepth 1000000 in
theorem alikeEnd_any (F G : Nat → Prop) (v u : Value) (a b : List UInt8) (w : World) (hv : BytesAt F w v a) (hu : BytesAt G w u b) (ha : a.length ≤ 1000000) (hb : b.length ≤ 1000000) :
    Calls Tryz.prog 82 #[v, u] w fun e w' => e = .returned (.int .i64 (Fr.cp a.reverse b.reverse)) ∧ ∃ q, w' = w.drewN q := by
  obtain ⟨ao, ca, rfl, -, -⟩ := RowAt.slice hv
  obtain ⟨bo, cb, rfl, -, -⟩ := RowAt.slice hu
  have HV := hid hv
  have HU := hid hu
  clear hv hu
  go_enter Tryz.func82, Tryz.ntmps82
  go_wp2
  go_loopw [5] (fun i wr => ∃ k : Nat, k ≤ a.length ∧ k ≤ b.length ∧ i = .int .i64 k ∧ Hid (a.reverse.take k = b.reverse.take k ∧ ∃ q, wr = w.drewN q)) (fun i _ => a.length - (intOf i).toNat)
  case atStart => exact ⟨0, Nat.zero_le _, Nat.zero_le _, rfl, rfl, 0, rfl⟩
  case round =>
    obtain ⟨k, hka, hkb, rfl, hr⟩ := hrel
    obtain ⟨q, rfl⟩ := hr.out.2
    by_cases hla : k < a.length ∧ k < b.length
    · obtain ⟨h1, h2⟩ := hla
      have hm : decide ((k : Int) < if b.length < a.length then (b.length : Int) else (a.length : Int)) = true := decide_eq_true (by split <;> omega)
      obtain ⟨b1, o1, rfl, c1⟩ := HV.out.get (i := a.length - 1 - k) (by omega)
      obtain ⟨b2, o2, rfl, c2⟩ := HU.out.get (i := b.length - 1 - k) (by omega)
      have ea : a.reverse[k]'(by simp; omega) = a[a.length - 1 - k]'(by omega) := List.getElem_reverse _
      have eb : b.reverse[k]'(by simp; omega) = b[b.length - 1 - k]'(by omega) := List.getElem_reverse _
      have i1 : ((a.length : Int) - 1 - (k : Int)).toNat = a.length - 1 - k := by omega
      have i2 : ((b.length : Int) - 1 - (k : Int)).toNat = b.length - 1 - k := by omega
      have j1 : (0 : Int) ≤ (a.length : Int) - 1 - (k : Int) := by omega
      have j2 : (0 : Int) ≤ (b.length : Int) - 1 - (k : Int) := by omega
      have j3 : (a.length : Int) - 1 - (k : Int) < (a.length : Int) := by omega
      have j4 : (b.length : Int) - 1 - (k : Int) < (b.length : Int) := by omega
      have c1' : (w.drewN q).cell? ⟨b1, o1 + (a.length - 1 - k), none⟩ = some (.int .u8 (a[a.length - 1 - k]'(by omega)).toNat) := c1
      have c2' : (w.drewN q).cell? ⟨b2, o2 + (b.length - 1 - k), none⟩ = some (.int .u8 (b[b.length - 1 - k]'(by omega)).toNat) := c2
      by_cases he : a[a.length - 1 - k]'(by omega) = b[b.length - 1 - k]'(by omega)
      · have he' : (((a[a.length - 1 - k]'(by omega)).toNat : Int) == ((b[b.length - 1 - k]'(by omega)).toNat : Int)) = true := by rw [he]; simp
        have HE := hid (ea.trans (he.trans eb.symm))
        clear he ea eb
        go_wp2
        go_quiet (fail)
        go_wp2
        all_goals
          go_roundw
          case rel =>
            refine ⟨k + 1, by omega, by omega, by go_num, ?_, by first | exact dre _ _ _ | exact ⟨_, rfl⟩⟩
            rw [List.take_add_one, List.take_add_one, hr.out.1, List.getElem?_eq_getElem (by simp; omega), List.getElem?_eq_getElem (by simp; omega), HE.out]
          case measure => simp [intOf]; omega
      · have he' : (((a[a.length - 1 - k]'(by omega)).toNat : Int) == ((b[b.length - 1 - k]'(by omega)).toNat : Int)) = false := by
          simp
          intro e
          exact he (UInt8.toNat_inj.1 (by omega))
        have hcp := Fr.cp_stop a.reverse b.reverse k hr.out.1 (by simp; omega) (by simp; omega) (fun _ _ h => he (ea.symm.trans (h.trans eb)))
        have HX := hid hcp
        clear hcp he ea eb
        go_wp2
        go_quiet (fail)
        go_wp2
        all_goals
          go_ret
          exact ⟨by rw [HX.out]; try rfl, by first | exact dre _ _ _ | exact ⟨_, rfl⟩⟩
    · have hm : decide ((k : Int) < if b.length < a.length then (b.length : Int) else (a.length : Int)) = false := decide_eq_false (by split <;> omega)
      have hcp := Fr.cp_stop a.reverse b.reverse k hr.out.1 (by simp; omega) (by simp; omega) (fun h1 h2 => absurd ⟨by simpa using h1, by simpa using h2⟩ hla)
      have HX := hid hcp
      clear hcp
      go_wp2
      go_quiet (fail)
      go_wp2
      all_goals
        go_ret
        exact ⟨by rw [HX.out]; try rfl, by first | exact dre _ _ _ | exact ⟨_, rfl⟩⟩

end Go.Proofs.YtfldcmdhneegmabGreatDoor

/-
  package frame's WALKS, 2: the Reader's Number.
-/
namespace Go.Proofs.YtfldcmdhneegmabGreatDoor
open Go.RowKit Go.Lib

/-- What Number answers. -/
def PNumEnd (l : List UInt8) (k : Nat) (v : Value) (b : Nat) (w : World) (e : Ending) (w' : World) : Prop :=
  But b w w' ∧
    match Fr.rd (l.drop k) with
    | some (n, r) => e = .returned (.int .u64 n) ∧ RdAt w' b v (l.length - r.length)
    | none => BytesPanic e
theorem rd_of_raw {l : List UInt8} {n : Nat} {r : List UInt8} (h : Fr.rdRaw l = some (n, false, r)) : Fr.rd l = some (n, r) := by unfold Fr.rd; rw [h]
theorem rd_of_many {l : List UInt8} {n : Nat} {r : List UInt8} (h : Fr.rdRaw l = some (n, true, r)) : Fr.rd l = none := by unfold Fr.rd; rw [h]
theorem rd_of_none {l : List UInt8} (h : Fr.rdRaw l = none) : Fr.rd l = none := by unfold Fr.rd; rw [h]
theorem pnumEnd_ok {l : List UInt8} {k : Nat} {v : Value} {b : Nat} {w w' : World} {n : Nat} {r : List UInt8} (h : Fr.rd (l.drop k) = some (n, r)) (hb : But b w w') {x : Int} (hx : x = n) {j : Nat} (hr : RdAt w' b v j) (hj : j = l.length - r.length) : PNumEnd l k v b w (.returned (.int .u64 x)) w' := by
  subst hx hj
  unfold PNumEnd
  rw [h]
  exact ⟨hb, rfl, hr⟩
theorem pnumEnd_no {l : List UInt8} {k : Nat} {v : Value} {b : Nat} {w w' : World} {e : Ending} (h : Fr.rd (l.drop k) = none) (hb : But b w w') (he : BytesPanic e) : PNumEnd l k v b w e w' := by
  unfold PNumEnd
  rw [h]
  exact ⟨hb, he⟩

theorem or_part (N bn i : Nat) (hN64 : N < 18446744073709551616) (hi : i < 10) (hN : N < 128 ^ i) : ∃ M : Nat, M < 18446744073709551616 ∧ bits .or .u64 (N : Int) (IntKind.u64.wrap ((bn : Int) % 128 * 2 ^ (i * 7))) = (M : Int) ∧ (i < 9 ∨ bn % 128 ≤ 1 → M = N + bn % 128 * 128 ^ i) := by
  have e1 : IntKind.u64.wrap ((bn : Int) % 128 * 2 ^ (i * 7)) = ((bn % 128 * 2 ^ (i * 7) % 18446744073709551616 : Nat) : Int) := by
    have : (bn : Int) % 128 * 2 ^ (i * 7) = ((bn % 128 * 2 ^ (i * 7) : Nat) : Int) := by simp
    rw [this]
    generalize bn % 128 * 2 ^ (i * 7) = Y
    simp only [IntKind.wrap, IntKind.bits, IntKind.signed]
    simp
  rw [e1]
  have hp : (2 : Nat) ^ (i * 7) = 128 ^ i := by rw [Nat.mul_comm, pow7]
  refine ⟨N ||| (bn % 128 * 2 ^ (i * 7) % 18446744073709551616), ?_, u64_or_nat _ _ hN64 (Nat.mod_lt _ (by omega)), ?_⟩
  · have h1 : N < 2 ^ 64 := by omega
    have h2 : bn % 128 * 2 ^ (i * 7) % 18446744073709551616 < 2 ^ 64 := Nat.lt_of_lt_of_le (Nat.mod_lt _ (by omega)) (by omega)
    have := Nat.or_lt_two_pow h1 h2
    omega
  · intro h
    have hlt : bn % 128 * 2 ^ (i * 7) < 18446744073709551616 := by
      rw [hp]
      rcases h with h | h
      · have h1 : bn % 128 * 128 ^ i ≤ 127 * 128 ^ i := Nat.mul_le_mul_right _ (by omega)
        have h2 := pow_le (k := i + 1) (by omega)
        rw [Nat.pow_succ] at h2
        omega
      · have h1 : bn % 128 * 128 ^ i ≤ 1 * 128 ^ i := Nat.mul_le_mul_right _ h
        have h2 := pow_le (k := i) (by omega)
        omega
    rw [Nat.mod_eq_of_lt hlt]
    have h3 := Nat.two_pow_add_eq_or_of_lt (i := i * 7) (b := N) (by rw [hp]; exact hN) (bn % 128)
    rw [Nat.or_comm, Nat.mul_comm (bn % 128), ← h3, hp]
    rw [Nat.mul_comm]
    omega

set_option maxHeartbeats 4000000 in
set_option maxRecDepth 1000000 in
theorem fNumber_any (F : Nat → Prop) (v : Value) (l : List UInt8) (b k : Nat) (w : World) (hr : RdAt w b v k) (hv : BytesAt F w v l) (hF : ¬ F b) (hk : k ≤ l.length) (hl : l.length ≤ 1000000) :
    Calls Tryz.prog 156 #[.pointer (some ⟨b, 0, none⟩)] w (PNumEnd l k v b w) := by
  have HR := hid hr
  have HV := hid hv
  clear hr hv
  go_enter Tryz.func156, Tryz.ntmps156
  go_wp2
  go_loopw [3, 6] (fun n j wr => ∃ (i N : Nat), i ≤ 10 ∧ k + i ≤ l.length ∧ j = .int .i64 i ∧ n = .int .u64 N ∧ N < 18446744073709551616 ∧ Hid (RdAt wr b v (k + i) ∧ But b w wr ∧ (i ≤ 9 → N < 128 ^ i ∧ Fr.rdGo (10 - i) i N (l.drop (k + i)) = Fr.rdRaw (l.drop k)) ∧ (i = 10 → Fr.rdRaw (l.drop k) = none))) (fun _ j _ => 10 - (intOf j).toNat)
  case atStart => exact ⟨0, 0, by omega, by omega, rfl, rfl, by omega, HR.out, But.refl _ _, fun _ => ⟨by decide, rfl⟩, fun h => by cases h⟩
  case round =>
    obtain ⟨i, N, hi10, hil, rfl, rfl, hN64, hr⟩ := hrel
    by_cases hi : i < 10
    · have hi' : (i : Int) < 10 := by omega
      obtain ⟨hN, hgo⟩ := hr.out.2.2.1 (by omega)
      have HNext := hid (fNext_any F v l b (k + i) wr hr.out.1 (HV.out.but hr.out.2.1 hF) (by omega) hl)
      by_cases hlt : k + i < l.length
      · have hb8 : l[k + i].toNat < 256 := l[k + i].toNat_lt
        have hnx : Fr.rdGo (10 - i) i N (l.drop (k + i)) = if i = 9 ∧ 1 < l[k + i].toNat then none else if l[k + i].toNat < 128 then some (N + l[k + i].toNat * 128 ^ i, decide (0 < i ∧ l[k + i] = 0), l.drop (k + i + 1)) else Fr.rdGo (10 - (i + 1)) (i + 1) (N + l[k + i].toNat % 128 * 128 ^ i) (l.drop (k + i + 1)) := by
          rw [List.drop_eq_getElem_cons hlt, show 10 - i = (10 - (i + 1)) + 1 by omega]
          rfl
        have hz : l[k + i] = 0 ↔ l[k + i].toNat = 0 := ⟨fun e => by rw [e]; rfl, fun e => UInt8.toNat_inj.1 e⟩
        rw [hgo] at hnx
        simp only [hz] at hnx
        clear hz hgo
        have HN2 : Hid (Calls Tryz.prog 191 #[.pointer (some ⟨b, 0, none⟩)] wr fun e w' => e = .returned (.int .u8 (l[k + i].toNat : Int)) ∧ RdAt w' b v (k + i + 1) ∧ But b wr w') := HNext.out.mono fun e w' h => by
          obtain ⟨h1, h2⟩ := h
          rw [dif_pos hlt] at h2
          exact ⟨h2.1, h2.2, h1⟩
        clear HNext
        generalize l[k + i].toNat = bn at *
        have hand : bits .andNot .u8 (bn : Int) 128 = ((bn % 128 : Nat) : Int) := by
          have h1 := u8_andNot_nat bn 128 hb8 (by omega)
          have h2 : bn &&& 127 = bn % 128 := Nat.and_two_pow_sub_one_eq_mod bn 7
          rw [show 255 - 128 = 127 by rfl, h2] at h1
          exact h1
        obtain ⟨M, hM64, hor, hMv⟩ := or_part N bn i hN64 hi hN
        by_cases hs7 : bn < 128
        · have hs7' : (bn : Int) < 128 := by omega
          by_cases h0 : bn = 0 ∧ 0 < i
          · have h0a : ¬ (0 : Int) < (bn : Int) := by omega
            have h0b : ((i : Int) == 0) = false := by simp; omega
            have hno : Fr.rd (l.drop k) = none := by
              by_cases c : i = 9 ∧ 1 < bn
              · omega
              · rw [if_neg c, if_pos hs7] at hnx
                have hd : decide (0 < i ∧ bn = 0) = true := decide_eq_true ⟨h0.2, h0.1⟩
                rw [hd] at hnx
                exact rd_of_many hnx
            have HX := hid hno
            clear hno hnx hMv
            go_wp2_with (first
              | (go_at_call 191; refine HN2.out.mono ?_; rintro e w1 ⟨rfl, hb⟩; have HB := hid hb; clear hb)
              | (go_at_call_of 89 (Value.bool false); refine (fNeed_false b _ _ _ HB.out.1.c1).mono ?_; rintro e w2 ⟨rfl, hw⟩; subst hw))
            exact ⟨rfl, pnumEnd_no HX.out (hr.out.2.1.trans HB.out.2) ⟨_, _, rfl⟩⟩
          · by_cases h9 : i = 9 ∧ 1 < bn
            · have h9a : decide ((i : Int) < 9) = false := decide_eq_false (by omega)
              have h9b : decide ((bn : Int) ≤ 1) = false := decide_eq_false (by omega)
              have h9c : (0 : Int) < (bn : Int) := by omega
              rw [if_pos h9] at hnx
              have HX := hid (rd_of_none hnx)
              clear hnx hMv h9 h0
              go_wp2_with (first
                | (go_at_call 191; refine HN2.out.mono ?_; rintro e w1 ⟨rfl, hb⟩; have HB := hid hb; clear hb)
                | (go_at_call_of 89 (Value.bool true); refine (fNeed_true b _ _).mono ?_; rintro e w2 ⟨rfl, hw⟩; subst hw)
                | (go_at_call_of 89 (Value.bool false); refine (fNeed_false b _ _ _ HB.out.1.c1).mono ?_; rintro e w2 ⟨rfl, hw⟩; subst hw))
              exact ⟨rfl, pnumEnd_no HX.out (hr.out.2.1.trans HB.out.2) ⟨_, _, rfl⟩⟩
            · rw [if_neg h9, if_pos hs7] at hnx
              have hdz : decide (0 < i ∧ bn = 0) = false := by simp; omega
              rw [hdz] at hnx
              have hok := rd_of_raw hnx
              have hm : bn % 128 = bn := by omega
              rw [hm] at hMv
              have hMe := hMv (by omega)
              have HX := hid (And.intro hok hMe)
              have hj : k + i + 1 = l.length - (l.drop (k + i + 1)).length := by rw [List.length_drop]; omega
              have HJ := hid hj
              clear hok hnx hMv hMe hdz hm hj
              by_cases c0 : (0 : Int) < (bn : Int)
              · by_cases c9 : (i : Int) < 9
                · go_wp2_with (first
                    | (go_at_call 191; refine HN2.out.mono ?_; rintro e w1 ⟨rfl, hb⟩; have HB := hid hb; clear hb)
                    | (go_at_call_of 89 (Value.bool true); refine (fNeed_true b _ _).mono ?_; rintro e w2 ⟨rfl, hw⟩; subst hw))
                  go_ret
                  exact pnumEnd_ok HX.out.1 (hr.out.2.1.trans HB.out.2) (by rw [HX.out.2]) HB.out.1 HJ.out
                · have c9b : (bn : Int) ≤ 1 := by omega
                  go_wp2_with (first
                    | (go_at_call 191; refine HN2.out.mono ?_; rintro e w1 ⟨rfl, hb⟩; have HB := hid hb; clear hb)
                    | (go_at_call_of 89 (Value.bool true); refine (fNeed_true b _ _).mono ?_; rintro e w2 ⟨rfl, hw⟩; subst hw))
                  go_ret
                  exact pnumEnd_ok HX.out.1 (hr.out.2.1.trans HB.out.2) (by rw [HX.out.2]) HB.out.1 HJ.out
              · have c1 : ((i : Int) == 0) = true := by simp; omega
                have c9 : (i : Int) < 9 := by omega
                go_wp2_with (first
                  | (go_at_call 191; refine HN2.out.mono ?_; rintro e w1 ⟨rfl, hb⟩; have HB := hid hb; clear hb)
                  | (go_at_call_of 89 (Value.bool true); refine (fNeed_true b _ _).mono ?_; rintro e w2 ⟨rfl, hw⟩; subst hw))
                go_ret
                exact pnumEnd_ok HX.out.1 (hr.out.2.1.trans HB.out.2) (by rw [HX.out.2]) HB.out.1 HJ.out
        · have hs7' : ¬ (bn : Int) < 128 := by omega
          have HX := hid (And.intro hnx hMv)
          clear hnx hMv
          go_wp2_with (go_at_call 191; refine HN2.out.mono ?_; rintro e w1 ⟨rfl, hb⟩; have HB := hid hb; clear hb)
          refine ⟨⟨i + 1, M, by omega, by omega, by go_num, rfl, hM64, HB.out.1, hr.out.2.1.trans HB.out.2, fun h9 => ?_, fun h10 => ?_⟩, by simp [intOf]; omega⟩
          · have h1 := HX.out.2 (Or.inl (by omega))
            have h2 := HX.out.1
            rw [if_neg (by omega), if_neg hs7, ← h1] at h2
            refine ⟨?_, h2.symm⟩
            rw [h1, Nat.pow_succ]
            have h3 : bn % 128 * 128 ^ i ≤ 127 * 128 ^ i := Nat.mul_le_mul_right _ (by omega)
            omega
          · have h2 := HX.out.1
            rw [if_pos (by omega)] at h2
            exact h2
      · have hno : Fr.rd (l.drop k) = none := by
          apply rd_of_none
          rw [← hgo, List.drop_eq_nil_of_le (by omega), show 10 - i = (10 - i - 1) + 1 by omega]
          rfl
        have HX := hid hno
        clear hno hgo
        go_wp2_with (go_at_call 191; refine HNext.out.mono ?_; rintro e w1 ⟨hb, he⟩; rw [dif_neg hlt] at he; obtain ⟨n1, s1, rfl⟩ := he; have HB := hid hb; clear hb)
        exact ⟨rfl, pnumEnd_no HX.out (hr.out.2.1.trans HB.out) ⟨_, _, rfl⟩⟩
    · obtain rfl : i = 10 := by omega
      have HX := hid (rd_of_none (hr.out.2.2.2 rfl))
      go_wp2_with (go_at_call 89; refine (fNeed_false b _ _ _ hr.out.1.c1).mono ?_; rintro e w1 ⟨rfl, hw⟩; subst hw)
      exact ⟨rfl, pnumEnd_no HX.out hr.out.2.1 ⟨_, _, rfl⟩⟩

end Go.Proofs.YtfldcmdhneegmabGreatDoor

/-
  package frame's WALKS: Read at an engine. Made by mkread.py.
-/
namespace Go.Proofs.YtfldcmdhneegmabGreatDoor
open Go.RowKit Go.Lib

set_option maxHeartbeats 1000000 in
theorem readE1_idle (p : Addr) (w : World) :
    CallsD Tryz.prog 87 #[.pointer (some p)] .returning w fun e u' w' => e = .returned (.tuple #[]) ∧ u' = .returning ∧ w' = w := by
  refine callsD_of_wpS Tryz.func87 rfl fun c₀ cs hu => ?_
  apply wpS_seq
  apply wpS_region
  simp [wpOpsS, go_sem, recoverD, hu, Tryz.ntmps87, Exit.thenS]
  refine wpS_of_wp ?_
  go_wp2
  cases c₀
  simp_all [bodyPostS, results, Tryz.results87]

theorem Tryz.assertBytesE (v : Value) (w : World) : (Instr.typeAssert (.iface 101 v) 20 101 true).run Tryz.prog w = .ok (.tuple #[v, .bool true]) w := by kernel_rfl

set_option maxHeartbeats 1000000 in
set_option maxRecDepth 100000 in
theorem readE1_caught (pb : Nat) (n : Int) (s : ByteArray) (older : List PanicEntry) (w : World) (u0 : Value) (hc : w.cell? ⟨pb, 0, none⟩ = some u0) (hz : w.frozen? ⟨pb, 0, none⟩ = false) :
    CallsD Tryz.prog 87 #[.pointer (some ⟨pb, 0, none⟩)] (.panicking ({ v := .iface 101 (.agg #[.int .i64 n, .string s]), recovered := false } :: older)) w fun e u' w' =>
      e = .returned (.tuple #[]) ∧ u' = .panicking ({ v := .iface 101 (.agg #[.int .i64 n, .string s]), recovered := true } :: older) ∧ ∃ o, w' = (w.setCell ⟨pb, 0, none⟩ (.iface 101 (.agg #[.int .i64 n, .string s]))).alloc o := by
  have hta := Tryz.assertBytesE (.agg #[.int .i64 n, .string s])
  have hlt : pb < w.heap.size := World.block_lt_of_cell? w ⟨pb, 0, none⟩ hc
  have hca : ∀ o, (w.alloc o).cell? ⟨pb, 0, none⟩ = some u0 := fun o => (World.cell?_alloc_lt w o ⟨pb, 0, none⟩ hlt).trans hc
  have hfa : ∀ o, (w.alloc o).frozen? ⟨pb, 0, none⟩ = false := fun o => (World.frozen?_alloc_old w o ⟨pb, 0, none⟩ (Nat.ne_of_lt hlt)).trans hz
  refine callsD_of_wpS Tryz.func87 rfl fun c₀ cs hu => ?_
  apply wpS_seq
  apply wpS_region
  simp [wpOpsS, go_sem, recoverD, hu, Tryz.ntmps87, Exit.thenS]
  refine wpS_of_wp ?_
  go_wp2
  simp [bodyPostS, results, Tryz.results87]
  exact ⟨_, rfl⟩

/-- What Read answers where the bytes are none: no engine, an error about the bytes. -/
def ReadNoE (w : World) (e : Ending) (w' : World) : Prop :=
  ∃ (n : Int) (s : ByteArray), e = .returned (.tuple #[.pointer none, .iface 101 (.agg #[.int .i64 n, .string s])]) ∧ Below w.heap.size w w'

set_option maxHeartbeats 2000000 in
set_option maxRecDepth 1000000 in
/-- The door, met by a panic about the bytes. -/
theorem read_doorE {w w1 : World} {tmps : Array Value} {n : Int} {s : ByteArray} (h6 : tmps[6]?.getD undef = .pointer none) (h7 : tmps[7]?.getD undef = .pointer (some ⟨w.heap.size, 0, none⟩)) (HB : Below (w.alloc (.cells #[.nilIface] 55)).heap.size (w.alloc (.cells #[.nilIface] 55)) w1) :
    bodyPostD Tryz.prog Tryz.f44 (ReadNoE w) (Exit.panic [{ v := .iface 101 (.agg #[.int .i64 n, .string s]), recovered := false }])
      { tmps := tmps, defers := [{ target := Target.fn (Fn.func 87) #[.pointer (some ⟨w.heap.size, 0, none⟩)], args := #[] }] } w1 := by
  have hc1 : w1.cell? ⟨w.heap.size, 0, none⟩ = some .nilIface := (cell_bel HB ⟨w.heap.size, 0, none⟩ (by simp)).trans (by simp)
  have hz1 : w1.frozen? ⟨w.heap.size, 0, none⟩ = false := (World.frozen?_of_block (a := ⟨w.heap.size, 0, none⟩) (HB.block w.heap.size (by simp))).trans (by simp)
  have hlt1 : w.heap.size < w1.heap.size := by have := HB.size; simp at this; omega
  refine leaves_cons (f := 87) (args := #[.pointer (some ⟨w.heap.size, 0, none⟩)]) (by simp) (by simp [go_sem]) ?_
  refine (readE1_caught w.heap.size n s [] _ .nilIface hc1 hz1).mono ?_
  rintro e u' w'' ⟨rfl, rfl, o, hw⟩
  have hc2 : w''.cell? ⟨w.heap.size, 0, none⟩ = some (.iface 101 (.agg #[.int .i64 n, .string s])) := by
    rw [hw, World.cell?_alloc_lt _ o ⟨w.heap.size, 0, none⟩ (by show _ < (w1.heap.modify _ _).size; rw [Array.size_modify]; exact hlt1)]
    exact World.cell?_setCell_same _ _ _ hc1
  have hb2 : Below w.heap.size w w'' := by
    rw [hw]
    exact ((((Below.refl _ w).alloc (Nat.le_refl _) _).trans (HB.mono (by simp))).setCell (Nat.le_refl _) _).alloc (by show _ ≤ (w1.heap.modify _ _).size; rw [Array.size_modify]; omega) _
  simp [Leaves, settle, results, Tryz.results44, go_sem, h6, h7, hc2]
  exact ⟨n, s, rfl, hb2⟩

set_option maxHeartbeats 2000000 in
set_option maxRecDepth 1000000 in
theorem readE_unsound (F : Nat → Prop) (v : Value) (l : List UInt8) (kind : UInt8) (rd : Value) (w : World) (hv : BytesAt F w v l) (hl : l.length ≤ 1000000) (hs : Fr.sound l kind = none) :
    Calls Tryz.prog 44 #[.int .u8 kind.toNat, v, rd] w (ReadNoE w) := by
  have hmf : ∀ (fn : Fn) (first cap : Array Value) (w : World), (Instr.makeFunc fn first cap).run Tryz.prog w = .ok (.func fn first cap) w := fun _ _ _ _ => rfl
  have HO := hid (fun o => fOpen_any F v l kind (w.alloc o) (hv.below ((Below.refl _ _).alloc (Nat.le_refl _) _)) hl)
  have HS := hid hs
  clear hv hs
  go_enter_defers Tryz.func44, Tryz.ntmps44
  go_wp2_with (go_at_call 88; refine (HO.out _).mono ?_; rintro e w1 ⟨hb, he⟩; rw [HS.out] at he; obtain ⟨n1, s1, rfl⟩ := he; have HB := hid hb; clear hb)
  exact read_doorE (n := n1) (s := s1) rfl rfl HB.out

/-- Read, where the reading itself ends by a panic about the bytes. -/
theorem read_belowE {w w1 w2 : World} {o : Obj} (h1 : Below (w.alloc o).heap.size (w.alloc o) w1) (h2 : Below (w.alloc o).heap.size w1 w2) : Below (w.alloc o).heap.size (w.alloc o) w2 := h1.trans h2
set_option maxHeartbeats 2000000 in
set_option maxRecDepth 1000000 in
theorem readE_panics (F : Nat → Prop) (v : Value) (l c : List UInt8) (kind : UInt8) (w : World) (hv : BytesAt F w v l) (hl : l.length ≤ 1000000) (hs : Fr.sound l kind = some c)
    (hr : ∀ (W : World) (v' : Value), Below (w.heap.size + 1) (w.alloc (.cells #[.nilIface] 55)) W → RdAt W (w.heap.size + 1) v' 1 → BytesAt F W v' (l.take (l.length - 4)) →
      Calls Tryz.prog 45 #[.pointer (some ⟨w.heap.size + 1, 0, none⟩)] W fun e w' => BytesPanic e ∧ Below (w.heap.size + 1) W w') :
    Calls Tryz.prog 44 #[.int .u8 kind.toNat, v, .func (.func 45) #[] #[]] w (ReadNoE w) := by
  have hmf : ∀ (fn : Fn) (first cap : Array Value) (w : World), (Instr.makeFunc fn first cap).run Tryz.prog w = .ok (.func fn first cap) w := fun _ _ _ _ => rfl
  have HO := hid (fun o => fOpen_any F v l kind (w.alloc o) (hv.below ((Below.refl _ _).alloc (Nat.le_refl _) _)) hl)
  have HS := hid hs
  have HR := hid hr
  clear hv hs hr
  go_enter_defers Tryz.func44, Tryz.ntmps44
  go_wp2_with (first
    | (go_at_call 88; refine (HO.out _).mono ?_; rintro e w1 ⟨hb, he⟩; rw [HS.out] at he; obtain ⟨v1, rfl, h1, h2⟩ := he; have HB := hid (And.intro hb (And.intro h1 h2)); clear hb h1 h2)
    | (go_at_call 45; refine (HR.out _ v1 (by simpa using HB.out.1) (by simpa using HB.out.2.1) HB.out.2.2).mono ?_; rintro e w2 ⟨⟨n2, s2, rfl⟩, hb2⟩; have HB2 := hid hb2; clear hb2))
  exact read_doorE (n := n2) (s := s2) rfl rfl (HB.out.1.trans (HB2.out.mono (by simp)))

set_option maxHeartbeats 2000000 in
set_option maxRecDepth 1000000 in
theorem readE_ok (F : Nat → Prop) (v : Value) (l c : List UInt8) (kind : UInt8) (w : World) (hv : BytesAt F w v l) (hl : l.length ≤ 1000000) (hs : Fr.sound l kind = some c) (P : Value → World → Prop)
    (hr : ∀ (W : World) (v' : Value), Below (w.heap.size + 1) (w.alloc (.cells #[.nilIface] 55)) W → RdAt W (w.heap.size + 1) v' 1 → BytesAt F W v' (l.take (l.length - 4)) →
      Calls Tryz.prog 45 #[.pointer (some ⟨w.heap.size + 1, 0, none⟩)] W fun e w' => ∃ r, e = .returned r ∧ RdAt w' (w.heap.size + 1) v' (l.length - 4) ∧ Below (w.heap.size + 1) W w' ∧ P r w') :
    Calls Tryz.prog 44 #[.int .u8 kind.toNat, v, .func (.func 45) #[] #[]] w fun e w' => ∃ r w2 q, e = .returned (.tuple #[r, .nilIface]) ∧ w' = (w2.drewN q).setCell ⟨w.heap.size, 0, none⟩ .nilIface ∧ P r w2 ∧ Below w.heap.size w w2 := by
  have hmf : ∀ (fn : Fn) (first cap : Array Value) (w : World), (Instr.makeFunc fn first cap).run Tryz.prog w = .ok (.func fn first cap) w := fun _ _ _ _ => rfl
  have h5 : 5 ≤ l.length := by
    unfold Fr.sound at hs
    split at hs
    · rename_i h; exact h.1
    · cases hs
  have HO := hid (fun o => fOpen_any F v l kind (w.alloc o) (hv.below ((Below.refl _ _).alloc (Nat.le_refl _) _)) hl)
  have HS := hid hs
  have HR := hid hr
  clear hv hs hr
  go_enter_defers Tryz.func44, Tryz.ntmps44
  go_wp2_with (first
    | (go_at_call 88; refine (HO.out _).mono ?_; rintro e w1 ⟨hb, he⟩; rw [HS.out] at he; obtain ⟨v1, rfl, h1, h2⟩ := he; obtain ⟨a1, p1, rfl, -, -⟩ := RowAt.slice h2; have HB := hid (And.intro hb (And.intro h1 h2)); clear hb h1 h2)
    | (go_at_call 45; refine (HR.out _ _ (by simpa using HB.out.1) (by simpa using HB.out.2.1) HB.out.2.2).mono ?_; rintro e w2 ⟨r2, rfl, hr2, hb2, hp2⟩; have c0 := hr2.c0; have c1 := hr2.c1; have HB2 := hid (And.intro hb2 (And.intro hp2 hr2)); clear hb2 hp2 hr2))
  have hb3 : Below (w.heap.size + 1) (w.alloc (.cells #[.nilIface] 55)) w2 := (show Below (w.heap.size + 1) (w.alloc (.cells #[.nilIface] 55)) w1 by simpa using HB.out.1).trans HB2.out.1
  have e0 : w2.cell? ⟨w.heap.size, 0, none⟩ = some .nilIface := (cell_bel hb3 ⟨w.heap.size, 0, none⟩ (by simp)).trans (by simp)
  have ez : w2.frozen? ⟨w.heap.size, 0, none⟩ = false := (World.frozen?_of_block (a := ⟨w.heap.size, 0, none⟩) (hb3.block w.heap.size (by simp))).trans (by simp)
  have HB3 := hid hb3
  clear hb3
  have hlen : (l.take (l.length - 4)).length = l.length - 4 := by rw [List.length_take]; omega
  rw [hlen] at c0
  go_quiet ((go_at_call 89; exact Calls.quiet_of_same (fNeed_true _ _ _)))
  go_wp2
  refine leaves_cons (f := 87) (args := #[.pointer (some ⟨w.heap.size, 0, none⟩)]) (by simp) (by simp [go_sem]) ?_
  refine (readE1_idle ⟨w.heap.size, 0, none⟩ _).mono ?_
  rintro e u' w'' ⟨rfl, rfl, rfl⟩
  have hc2 : ((w2.drewN nq).setCell ⟨w.heap.size, 0, none⟩ .nilIface).cell? ⟨w.heap.size, 0, none⟩ = some .nilIface := World.cell?_setCell_same _ _ _ (show (w2.drewN nq).cell? ⟨w.heap.size, 0, none⟩ = some .nilIface from e0)
  simp [Leaves, settle, results, Tryz.results44, go_sem, hc2]
  exact ⟨w2, ⟨nq, rfl⟩, HB2.out.2.1, ((Below.refl _ w).alloc (Nat.le_refl _) _).trans (HB3.out.mono (by omega))⟩

end Go.Proofs.YtfldcmdhneegmabGreatDoor
