import Derived.Test.YtfldcmdhneegmaaGreatDoorZ56
import Derived.Deep.RegionWith

/-
  package frame's WALKS, 3: open.
-/
namespace Go.Proofs.YtfldcmdhneegmaaGreatDoor
open Go.RowKit Go.Lib

/-- What open answers. -/
def OpenEnd (F : Nat → Prop) (l : List UInt8) (kind : UInt8) (w : World) (e : Ending) (w' : World) : Prop :=
  Below w.heap.size w w' ∧
    match Fr.sound l kind with
    | some _ => ∃ v', e = .returned (.pointer (some ⟨w.heap.size, 0, none⟩)) ∧ RdAt w' w.heap.size v' 1 ∧ BytesAt F w' v' (l.take (l.length - 4))
    | none => BytesPanic e
theorem openEnd_no {F : Nat → Prop} {l : List UInt8} {kind : UInt8} {w w' : World} {e : Ending} (h : Fr.sound l kind = none) (hb : Below w.heap.size w w') (he : BytesPanic e) : OpenEnd F l kind w e w' := by
  unfold OpenEnd
  rw [h]
  exact ⟨hb, he⟩
/-- Where a callee panics in a region that draws, the region's walk wants one way left: this is it. -/
theorem ended_here {G : Prop} (P : Program) (w : World) (g : G) (_ : wpAny P .any #[] (fun _ _ _ => True) 0 #[] ⟨#[], []⟩ w) : G := g
theorem res_two {W : World} {b : Nat} {x y : Value} {t : TypeId} (h : W.heap[b]? = some (.cells #[x, y] t (0, 0))) : W.cell? ⟨b, 0, none⟩ = some x ∧ W.cell? ⟨b, 1, none⟩ = some y ∧ W.frozen? ⟨b, 0, none⟩ = false ∧ W.frozen? ⟨b, 1, none⟩ = false := by
  simp [World.cell?, World.frozen?, h]

set_option maxHeartbeats 2000000 in
set_option maxRecDepth 1000000 in
theorem fOpen_any (F : Nat → Prop) (v : Value) (l : List UInt8) (kind : UInt8) (w : World) (hv : BytesAt F w v l) (hl : l.length ≤ 1000000) :
    Calls Tryz.prog 112 #[.int .u8 kind.toNat, v] w (OpenEnd F l kind w) := by
  obtain ⟨ao, cap, rfl, hcap, -⟩ := RowAt.slice hv
  by_cases h5 : l.length < 5
  · have hn : Fr.sound l kind = none := by unfold Fr.sound; rw [if_neg (by rintro ⟨h, -⟩; omega)]
    have HX := hid hn
    have h4 : decide ((4 : Int) < (l.length : Int)) = false := decide_eq_false (by omega)
    have h4' : decide ((0 : Int) < (l.length : Int) - 4) = false := decide_eq_false (by omega)
    clear hn hv
    go_enter Tryz.func112, Tryz.ntmps112
    go_wp2_with (go_at_call_of 113 (Value.bool false); refine (fNeed_false w.heap.size 0 _ _ (by simp)).mono ?_; rintro e w2 ⟨rfl, hw⟩; subst hw)
    exact ⟨rfl, openEnd_no HX.out ((Below.refl _ _).alloc (Nat.le_refl _) _) ⟨_, _, rfl⟩⟩
  · have h4 : decide ((4 : Int) < (l.length : Int)) = true := decide_eq_true (by omega)
    have h4' : decide ((0 : Int) < (l.length : Int) - 4) = true := decide_eq_true (by omega)
    have hA : ∀ o, BytesAt F (w.alloc o) (.slice ao l.length cap) l := fun o => hv.below ((Below.refl _ _).alloc (Nat.le_refl _) _)
    obtain ⟨b1, o1, rfl, c1⟩ := BytesAt.get (hA (.cells #[.slice none 0 0, .int .i64 0] 207)) (i := 0) (by omega)
    simp only [Nat.add_zero] at c1
    by_cases hk : l[0] = kind
    · have hk' : (((l[0]'(by omega)).toNat : Int) == (kind.toNat : Int)) = true := by rw [hk]; simp
      have hS : Fr.sound l kind = if Fr.sum (l.take (l.length - 4)) = l.drop (l.length - 4) then some ((l.take (l.length - 4)).drop 1) else none := by
        have hh : l.head? = some kind := by
          cases l with
          | nil => simp at h5
          | cons b t => simpa using hk
        unfold Fr.sound
        by_cases c : Fr.sum (l.take (l.length - 4)) = l.drop (l.length - 4)
        · rw [if_pos c, if_pos ⟨by omega, hh, c⟩]
        · rw [if_neg c, if_neg (fun h => c h.2.2)]
      obtain ⟨a1, p1, hs1, hv1⟩ := hv.head ((l.length : Int) - 4) (l.length - 4) (by omega) (by omega) hcap
      have HV1 := hid hv1
      have HC1 := hid (fSum_any F _ (l.take (l.length - 4)) (w.alloc (.cells #[.slice none 0 0, .int .i64 0] 207)) (hv1.below ((Below.refl _ _).alloc (Nat.le_refl _) _)))
      have HC2 := hid (fSumOf_any F _ l (w.alloc (.cells #[.slice none 0 0, .int .i64 0] 207)) (hA _) (by omega) hl)
      clear hv hA hk hv1
      have c2 : (w.alloc (.cells #[.slice none 0 0, .int .i64 0] 207)).heap[w.heap.size]? = some (.cells #[.slice none 0 0, .int .i64 0] 207 (0, 0)) := heap_alloc_new w _
      have hB2 : Below w.heap.size w (w.alloc (.cells #[.slice none 0 0, .int .i64 0] 207)) := (Below.refl _ _).alloc (Nat.le_refl _) _
      have C2 := hid c2
      have HB2 := hid hB2
      clear c2 hB2
      have hd4 : (l.drop (l.length - 4)).length = 4 := by rw [List.length_drop]; omega
      have hsi := Fr.sum_iff (m := l.take (l.length - 4)) hd4
      by_cases hsum : Fr.sum (l.take (l.length - 4)) = l.drop (l.length - 4)
      · rw [if_pos hsum] at hS
        have hsd : ((Fr.sumN (l.take (l.length - 4)) : Int) == (Fr.val (l.drop (l.length - 4)) : Int)) = true := by rw [hsi.1 hsum]; simp
        have HS := hid hS
        clear hS hsum hsi hd4
        go_enter Tryz.func112, Tryz.ntmps112
        go_wp2_with (first
          | (go_at_call 128; refine HC1.out.mono ?_; rintro e w3 ⟨rfl, hw⟩; subst hw)
          | (go_at_call 183; refine HC2.out.mono ?_; rintro e w3 ⟨rfl, hw⟩; subst hw)
          | (go_at_call_of 113 (Value.bool true); refine (fNeed_true w.heap.size _ _).mono ?_; rintro e w2 ⟨rfl, hw⟩; subst hw))
        go_ret
        unfold OpenEnd
        rw [HS.out]
        exact ⟨(Below.refl _ _).alloc (Nat.le_refl _) _, _, rfl, heap_alloc_new w _, HV1.out.below ((Below.refl _ _).alloc (Nat.le_refl _) _)⟩
      · rw [if_neg hsum] at hS
        have hsd : ((Fr.sumN (l.take (l.length - 4)) : Int) == (Fr.val (l.drop (l.length - 4)) : Int)) = false := by
          simp
          intro e
          exact hsum (hsi.2 (by omega))
        have HS := hid hS
        clear hS hsum hsi hd4
        go_enter Tryz.func112, Tryz.ntmps112
        go_wp2_with (first
          | (go_at_call 128; refine HC1.out.mono ?_; rintro e w3 ⟨rfl, hw⟩; subst hw)
          | (go_at_call 183; refine HC2.out.mono ?_; rintro e w3 ⟨rfl, hw⟩; subst hw)
          | (go_at_call_of 113 (Value.bool true); refine (fNeed_true w.heap.size _ _).mono ?_; rintro e w2 ⟨rfl, hw⟩; subst hw)
          | (go_at_call_of 113 (Value.bool false); refine (fNeed_false w.heap.size 0 _ _ (by simp)).mono ?_; rintro e w4 ⟨rfl, hw⟩; subst hw))
        exact ⟨rfl, openEnd_no HS.out HB2.out ⟨_, _, rfl⟩⟩
    · have hk' : (((l[0]'(by omega)).toNat : Int) == (kind.toNat : Int)) = false := by
        simp
        intro e
        exact hk (UInt8.toNat_inj.1 (by omega))
      have hn : Fr.sound l kind = none := by
        unfold Fr.sound
        rw [if_neg]
        rintro ⟨-, h, -⟩
        apply hk
        cases l with
        | nil => simp at h5
        | cons b t => simpa using h
      have HX := hid hn
      clear hn hv hA hk
      go_enter Tryz.func112, Tryz.ntmps112
      go_wp2_with (first
        | (go_at_call_of 113 (Value.bool true); refine (fNeed_true w.heap.size _ _).mono ?_; rintro e w2 ⟨rfl, hw⟩; subst hw)
        | (go_at_call_of 113 (Value.bool false); refine (fNeed_false w.heap.size 0 _ _ (by simp)).mono ?_; rintro e w2 ⟨rfl, hw⟩; subst hw))
      exact ⟨rfl, openEnd_no HX.out ((Below.refl _ _).alloc (Nat.le_refl _) _) ⟨_, _, rfl⟩⟩

end Go.Proofs.YtfldcmdhneegmaaGreatDoor

/-
  package frame's WALKS, 4: the Writer.
-/
namespace Go.Proofs.YtfldcmdhneegmaaGreatDoor
open Go.RowKit Go.Lib

/-- The Writer in memory: its block, and a row of the call's own. -/
def WrAt (base : Nat) (w : World) (b : Nat) (l : List UInt8) : Prop :=
  ∃ v, w.heap[b]? = some (.cells #[v] 220 (0, 0)) ∧ w.ownsRow base 5 1 v l.length (byteCells l) ∧ base ≤ b
set_option maxRecDepth 100000 in
theorem or128 : ∀ x : Fin 256, x.val ||| 128 = x.val % 128 + 128 := by decide
theorem or_byte (u : Nat) : bits .or .u8 ((u : Int) % 256) 128 = ((u % 128 + 128 : Nat) : Int) := by
  have h1 := u8_or_nat (u % 256) 128 (by omega) (by omega)
  have h2 := or128 ⟨u % 256, by omega⟩
  simp only at h2
  rw [h2, show u % 256 % 128 = u % 128 by omega] at h1
  rw [← h1]
  rfl
/-- A byte more. -/
theorem WrAt.put {base b : Nat} {w w1 w2 : World} {l : List UInt8} {v v' : Value} {x : UInt8} {o : Obj} (hbk : w1.heap[b]? = some (.cells #[v] 220 (0, 0))) (hown : w1.ownsRow base 5 1 v l.length (byteCells l)) (hbb : base ≤ b) (hb1 : Below base w w1) (hbw : base ≤ w.heap.size)
    (hown' : w2.ownsRow base 5 1 v' (l.length + 1) (byteCells l ++ [.int .u8 x.toNat])) (hg : (w1.alloc o).grownBy w2 v.ownBlock) :
    w2.heap[b]? = some (.cells #[v] 220 (0, 0)) ∧ WrAt base (w2.setCell ⟨b, 0, none⟩ v') b (l ++ [x]) ∧ Below base w (w2.setCell ⟨b, 0, none⟩ v') := by
  have hlt : b < w1.heap.size := lt_of_block hbk
  have hne : some b ≠ v.ownBlock := fun e => by
    obtain ⟨-, c, fz, h⟩ := own_block hown b e.symm
    rw [hbk] at h
    cases h
  have hb2 : w2.heap[b]? = some (.cells #[v] 220 (0, 0)) := by
    rw [hg.block b (by simp; omega) hne, Below.heap_alloc _ _ _ hlt]
    exact hbk
  have hne' : ∀ g, v'.ownBlock = some g → g ≠ b := fun g e h => by
    obtain ⟨-, c, fz, h2⟩ := own_block hown' g e
    rw [h, hb2] at h2
    cases h2
  refine ⟨hb2, ⟨v', one_set hb2 v', ?_, hbb⟩, ?_⟩
  · have e1 : (l ++ [x]).length = l.length + 1 := by simp
    have e2 : byteCells (l ++ [x]) = byteCells l ++ [.int .u8 x.toNat] := by simp [byteCells]
    rw [e1, e2]
    exact ownsRow_setCell_other hown' (a := ⟨b, 0, none⟩) (fun e => hne' b e rfl) _
  · exact ((hb1.alloc (Nat.le_trans hbw hb1.size) o).grown hg (by have := hb1.size; simp; omega) (fun k hk => (own_block hown k hk).1)).setCell hbb _

set_option maxHeartbeats 2000000 in
set_option maxRecDepth 1000000 in
theorem wNumber_any (base b : Nat) (l : List UInt8) (n : Nat) (w : World) (h : WrAt base w b l) (hn : n < 18446744073709551616) (hl : l.length ≤ 100000000) (hbw : base ≤ w.heap.size) :
    Calls Tryz.prog 125 #[.pointer (some ⟨b, 0, none⟩), .int .u64 n] w fun e w' => e = .returned (.tuple #[]) ∧ WrAt base w' b (l ++ Fr.num n) ∧ Below base w w' := by
  go_enter Tryz.func125, Tryz.ntmps125
  go_wp2
  go_loopw [1] (fun m wr => ∃ (u : Nat) (acc : List UInt8), u < 18446744073709551616 ∧ m = .int .u64 u ∧ Hid (acc ++ Fr.num u = l ++ Fr.num n ∧ WrAt base wr b acc ∧ Below base w wr)) (fun m _ => (intOf m).toNat)
  case atStart => exact ⟨n, l, hn, rfl, rfl, h, Below.refl _ _⟩
  case round =>
    obtain ⟨u, acc, hu, rfl, hr⟩ := hrel
    have ha : acc.length ≤ 100000010 := by
      have h1 := congrArg List.length hr.out.1
      have h2 := Fr.num_length64 hn
      rw [List.length_append, List.length_append] at h1
      omega
    obtain ⟨v, hbk, hown, hbb⟩ := hr.out.2.1
    obtain ⟨c0, f0⟩ := one_cell hbk
    obtain ⟨i0, hi, hz0, hz1, hz2⟩ := info_parts Tryz.infoByteW
    by_cases h10 : 128 ≤ u
    · have h10' : (128 : Int) ≤ (u : Int) := by omega
      have hbo := or_byte u
      obtain ⟨xb, hxb, hx⟩ : ∃ xb : UInt8, UInt8.ofNat (u % 128 + 128) = xb ∧ (xb.toNat : Int) = ((u % 128 + 128 : Nat) : Int) := ⟨_, rfl, by rw [Fr.toNat_ofNat (by omega)]⟩
      rw [← hx] at hbo
      have HXB := hid hxb
      clear hx hxb
      have HR := hid hr.out
      clear hr
      go_wp2_with (at_builtin; refine wpList_append_row rfl _ _ 25 rfl base 5 i0 (.int .u8 0) 1 1 Tryz.underlying25 hi hz0 hz1 hz2 rfl (by decide) _ _ _ rfl (hown.alloc _) (fun _ => True) _ 1 [.int .u8 xb.toNat] rfl (one_row (new_at rfl)) (by intro u hu; simp at hu; subst hu; rfl) (by unfold maxLen; omega) (by omega) (by have := HR.out.2.2.size; simp; omega) ?_)
      intro v' w2 hown' hg
      obtain ⟨hb2, hput, hbel⟩ := WrAt.put hbk hown hbb HR.out.2.2 hbw hown' hg
      obtain ⟨d0, g0⟩ := one_cell hb2
      obtain ⟨a1, p1, rfl⟩ := own_slice hown'
      have HP := hid (And.intro hput hbel)
      clear hown' hg hput hbel
      go_wp2
      go_roundw
      case rel =>
        refine ⟨u / 128, acc ++ [xb], by omega, by go_num, ?_, HP.out.1, HP.out.2⟩
        rw [← HR.out.1, Fr.num_great (n := u) (by omega), HXB.out]
        simp
      case measure => simp [intOf]; omega
    · have h10' : ¬ (128 : Int) ≤ (u : Int) := by omega
      have hx : ((UInt8.ofNat u).toNat : Int) = (u : Int) := by rw [Fr.toNat_ofNat (by omega)]
      have HX := hid hx
      clear hx
      have HR := hid hr.out
      clear hr
      go_wp2_with (at_builtin; refine wpList_append_row rfl _ _ 25 rfl base 5 i0 (.int .u8 0) 1 1 Tryz.underlying25 hi hz0 hz1 hz2 rfl (by decide) _ _ _ rfl (hown.alloc _) (fun _ => True) _ 1 [.int .u8 (u : Int)] rfl (one_row (new_at rfl)) (by intro u hu; simp at hu; subst hu; rfl) (by unfold maxLen; omega) (by omega) (by have := HR.out.2.2.size; simp; omega) ?_)
      intro v' w2 hown' hg
      rw [← HX.out] at hown'
      obtain ⟨hb2, hput, hbel⟩ := WrAt.put hbk hown hbb HR.out.2.2 hbw hown' hg
      obtain ⟨d0, g0⟩ := one_cell hb2
      obtain ⟨a1, p1, rfl⟩ := own_slice hown'
      have HP := hid (And.intro hput hbel)
      clear hown' hg hput hbel
      go_wp2
      go_end0
      refine ⟨rfl, ?_, HP.out.2⟩
      have := HR.out.1
      rw [Fr.num_small (n := u) (by omega)] at this
      rw [← this]
      exact HP.out.1

theorem own_one {W : World} {g base : Nat} {e : TypeId} {x : Value} (h : W.heap[g]? = some (.cells #[x] e (0, 0))) (hb : base ≤ g) : W.ownsRow base e 1 (.slice (some ⟨g, 0, none⟩) 1 1) 1 [x] :=
  ⟨by simp, Or.inr ⟨g, 1, #[x], rfl, hb, h, Nat.le_refl _, by unfold maxLen; omega, by simp, by simp⟩⟩

set_option maxHeartbeats 1000000 in
theorem newWriter_any (kind : UInt8) (w : World) :
    Calls Tryz.prog 75 #[.int .u8 kind.toNat] w fun e w' => ∃ b, e = .returned (.pointer (some ⟨b, 0, none⟩)) ∧ WrAt w.heap.size w' b [kind] ∧ Below w.heap.size w w' := by
  go_enter Tryz.func75, Tryz.ntmps75
  go_wp2
  go_ret
  refine ⟨w.heap.size + 1, rfl, ⟨_, new_at (by simp), own_one ((Below.heap_alloc _ _ _ (by simp)).trans (new_at rfl)) (Nat.le_refl _), by omega⟩, ((Below.refl _ w).alloc (Nat.le_refl _) _).alloc (by simp) _⟩

end Go.Proofs.YtfldcmdhneegmaaGreatDoor

/-
  package frame's WALKS: the Writer's Count and Moment.
-/
namespace Go.Proofs.YtfldcmdhneegmaaGreatDoor
open Go.RowKit Go.Lib

set_option maxHeartbeats 1000000 in
theorem wCount_any (base b : Nat) (l : List UInt8) (n : Nat) (w : World) (h : WrAt base w b l) (hn : n < 9223372036854775808) (hl : l.length ≤ 100000000) (hbw : base ≤ w.heap.size) :
    Calls Tryz.prog 79 #[.pointer (some ⟨b, 0, none⟩), .int .i64 n] w fun e w' => e = .returned (.tuple #[]) ∧ WrAt base w' b (l ++ Fr.num n) ∧ Below base w w' := by
  have HC := hid (wNumber_any base b l n w h (by omega) hl hbw)
  clear h
  go_enter Tryz.func79, Tryz.ntmps79
  go_wp2_with (go_at_call 125; refine HC.out.mono ?_; rintro e w1 ⟨rfl, h1, h2⟩; have HB := hid (And.intro h1 h2); clear h1 h2)
  go_end0
  exact ⟨rfl, HB.out.1, HB.out.2⟩

set_option maxHeartbeats 1000000 in
theorem wMoment_any (base b : Nat) (l : List UInt8) (t : Int) (w : World) (h : WrAt base w b l) (h1 : -9223372036854775808 ≤ t) (h2 : t < 9223372036854775808) (hl : l.length ≤ 100000000) (hbw : base ≤ w.heap.size) :
    Calls Tryz.prog 78 #[.pointer (some ⟨b, 0, none⟩), .int .i64 t] w fun e w' => e = .returned (.tuple #[]) ∧ WrAt base w' b (l ++ Fr.mom t) ∧ Below base w w' := by
  have HC := hid (wNumber_any base b l (Fr.zig t) w h (Fr.zig_lt h1 h2) hl hbw)
  clear h
  by_cases h0 : t < 0
  · have hn := u64_not (2 * t + 18446744073709551616).toNat (by omega)
    have e2 : ((18446744073709551615 - (2 * t + 18446744073709551616).toNat : Nat) : Int) = Fr.zig t := by unfold Fr.zig; rw [if_neg (by omega)]; omega
    have e3 : (((2 * t + 18446744073709551616).toNat : Nat) : Int) = IntKind.u64.wrap (IntKind.u64.wrap t * 2) := by
      simp only [IntKind.wrap, IntKind.bits, IntKind.signed]
      simp
      omega
    rw [e2, e3] at hn
    have hm : IntKind.u64.max = 18446744073709551615 := by decide
    have HN : Hid (bits .xor .u64 IntKind.u64.max (IntKind.u64.wrap (IntKind.u64.wrap t * 2)) = Fr.zig t) := by rw [hm]; exact hn
    clear hn e2 e3 hm
    go_enter Tryz.func78, Tryz.ntmps78
    go_wp2_with (go_at_call 125; rw [HN.out]; refine HC.out.mono ?_; rintro e w1 ⟨rfl, h1, h2⟩; have HB := hid (And.intro h1 h2); clear h1 h2)
    go_end0
    exact ⟨rfl, HB.out.1, HB.out.2⟩
  · have HN : Hid (t * 2 = Fr.zig t) := by
      unfold Hid Fr.zig
      rw [if_pos (by omega)]
      omega
    go_enter Tryz.func78, Tryz.ntmps78
    go_wp2_with (go_at_call 125; rw [HN.out]; refine HC.out.mono ?_; rintro e w1 ⟨rfl, h1, h2⟩; have HB := hid (And.intro h1 h2); clear h1 h2)
    go_end0
    exact ⟨rfl, HB.out.1, HB.out.2⟩

end Go.Proofs.YtfldcmdhneegmaaGreatDoor
