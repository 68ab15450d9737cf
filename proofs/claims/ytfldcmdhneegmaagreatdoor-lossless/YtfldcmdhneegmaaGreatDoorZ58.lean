import Derived.Test.YtfldcmdhneegmaaGreatDoorZ57
import Derived.Test.YtfldcmdhneegmaaGreatDoorZ09
import Derived.Deep.RegionHeld3
import Derived.Lib.SliceRun
import Derived.Lib.AppendStr

/-
  package frame's WALKS: appendSum; the Writer's Sum, Rest, Frame; slices.Clone at bytes.
-/
namespace Go.Proofs.YtfldcmdhneegmaaGreatDoor
open Go.RowKit Go.Lib

theorem grown_alloc {w w' : World} {o : Obj} {x : Option Nat} (h : (w.alloc o).grownBy w' x) : w.grownBy w' x :=
  ⟨h.os, h.tape, h.output, Nat.le_trans (by simp) h.size, fun k hk hne => (h.block k (by simp; omega) hne).trans (Below.heap_alloc _ _ _ hk)⟩
/-- A row of four bytes. -/
theorem be4_row {F : Nat → Prop} {w : World} {b n : Nat} (hn : n < 4294967296) (hF : F b) (h : w.heap[b]? = some (.cells #[.int .u8 ((n : Int) / 16777216), .int .u8 ((n : Int) / 65536 % 256), .int .u8 ((n : Int) / 256 % 256), .int .u8 ((n : Int) % 256)] 5 (0, 0))) :
    BytesAt F w (.slice (some ⟨b, 0, none⟩) 4 4) (Fr.be4 n) := by
  have e : byteCells (Fr.be4 n) = [.int .u8 ((n : Int) / 16777216), .int .u8 ((n : Int) / 65536 % 256), .int .u8 ((n : Int) / 256 % 256), .int .u8 ((n : Int) % 256)] := by
    have h0 : ((UInt8.ofNat (n / 16777216)).toNat : Int) = (n : Int) / 16777216 := by rw [u8_nat]; omega
    have h1 : ((UInt8.ofNat (n / 65536)).toNat : Int) = (n : Int) / 65536 % 256 := by rw [u8_nat]; omega
    have h2 : ((UInt8.ofNat (n / 256)).toNat : Int) = (n : Int) / 256 % 256 := by rw [u8_nat]; omega
    have h3 : ((UInt8.ofNat n).toNat : Int) = (n : Int) % 256 := by rw [u8_nat]
    unfold Fr.be4 byteCells
    simp only [List.map_cons, List.map_nil, h0, h1, h2, h3]
  unfold BytesAt
  rw [e]
  refine ⟨rfl, Or.inr ⟨b, 0, 4, rfl, hF, lt_of_block h, Nat.le_refl _, by unfold maxLen; omega, fun j u hj => ?_⟩⟩
  match j, hj with
  | 0, hj => simp only [List.getElem?_cons_zero, Option.some.injEq] at hj; subst hj; simp [World.cell?, h]
  | 1, hj => simp only [List.getElem?_cons_succ, List.getElem?_cons_zero, Option.some.injEq] at hj; subst hj; simp [World.cell?, h]
  | 2, hj => simp only [List.getElem?_cons_succ, List.getElem?_cons_zero, Option.some.injEq] at hj; subst hj; simp [World.cell?, h]
  | 3, hj => simp only [List.getElem?_cons_succ, List.getElem?_cons_zero, Option.some.injEq] at hj; subst hj; simp [World.cell?, h]
  | j + 4, hj => simp at hj
set_option maxHeartbeats 1000000 in
set_option maxRecDepth 1000000 in
theorem appendSum_any (base : Nat) (v : Value) (l : List UInt8) (n : Nat) (w : World) (hown : w.ownsRow base 5 1 v l.length (byteCells l)) (hn : n < 4294967296) (hl : l.length ≤ 100000000) (hbw : base ≤ w.heap.size) :
    Calls Tryz.prog 126 #[v, .int .u32 n] w fun e w' => ∃ v', e = .returned v' ∧ w'.ownsRow base 5 1 v' (l.length + 4) (byteCells l ++ byteCells (Fr.be4 n)) ∧ w.grownBy w' v.ownBlock := by
  obtain ⟨i0, hi, hz0, hz1, hz2⟩ := info_parts Tryz.infoByteW
  have HO := hid hown
  clear hown
  go_enter Tryz.func126, Tryz.ntmps126
  go_wp2_with (at_builtin; refine wpList_append_row rfl _ _ 25 rfl base 5 i0 (.int .u8 0) 1 1 Tryz.underlying25 hi hz0 hz1 hz2 rfl (by decide) _ _ _ rfl (HO.out.alloc _) (fun _ => True) _ 4 (byteCells (Fr.be4 n)) rfl (be4_row hn trivial (new_at rfl)) (oneCell_bytes _) (by unfold maxLen; omega) (by omega) (by simp; omega) ?_)
  intro v' w2 hown' hg
  have HB := hid (And.intro hown' (grown_alloc hg))
  clear hown' hg
  go_wp2
  go_ret
  exact ⟨_, rfl, HB.out.1, HB.out.2⟩

/-- Some bytes more. -/
theorem WrAt.puts {base b : Nat} {w w1 w2 : World} {l t : List UInt8} {v v' : Value} (hbk : w1.heap[b]? = some (.cells #[v] 220 (0, 0))) (hown : w1.ownsRow base 5 1 v l.length (byteCells l)) (hbb : base ≤ b) (hb1 : Below base w w1) (hbw : base ≤ w.heap.size)
    (hown' : w2.ownsRow base 5 1 v' (l.length + t.length) (byteCells l ++ byteCells t)) (hg : w1.grownBy w2 v.ownBlock) :
    w2.heap[b]? = some (.cells #[v] 220 (0, 0)) ∧ WrAt base (w2.setCell ⟨b, 0, none⟩ v') b (l ++ t) ∧ Below base w (w2.setCell ⟨b, 0, none⟩ v') := by
  have hlt : b < w1.heap.size := lt_of_block hbk
  have hne : some b ≠ v.ownBlock := fun e => by
    obtain ⟨-, c, fz, h⟩ := own_block hown b e.symm
    rw [hbk] at h
    cases h
  have hb2 : w2.heap[b]? = some (.cells #[v] 220 (0, 0)) := (hg.block b hlt hne).trans hbk
  have hne' : ∀ g, v'.ownBlock = some g → g ≠ b := fun g e h => by
    obtain ⟨-, c, fz, h2⟩ := own_block hown' g e
    rw [h, hb2] at h2
    cases h2
  refine ⟨hb2, ⟨v', one_set hb2 v', ?_, hbb⟩, ?_⟩
  · have e1 : (l ++ t).length = l.length + t.length := by simp
    have e2 : byteCells (l ++ t) = byteCells l ++ byteCells t := by simp [byteCells]
    rw [e1, e2]
    exact ownsRow_setCell_other hown' (a := ⟨b, 0, none⟩) (fun e => hne' b e rfl) _
  · exact (hb1.grown hg (Nat.le_trans hbw hb1.size) (fun k hk => (own_block hown k hk).1)).setCell hbb _

set_option maxHeartbeats 1000000 in
set_option maxRecDepth 1000000 in
theorem wSum_any (base b : Nat) (l : List UInt8) (n : Nat) (w : World) (h : WrAt base w b l) (hn : n < 4294967296) (hl : l.length ≤ 100000000) (hbw : base ≤ w.heap.size) :
    Calls Tryz.prog 208 #[.pointer (some ⟨b, 0, none⟩), .int .u32 n] w fun e w' => e = .returned (.tuple #[]) ∧ WrAt base w' b (l ++ Fr.be4 n) ∧ Below base w w' := by
  obtain ⟨v, hbk, hown, hbb⟩ := h
  obtain ⟨c0, f0⟩ := one_cell hbk
  have HC := hid (appendSum_any base v l n w hown hn hl hbw)
  have HK := hid (And.intro hbk hown)
  clear hbk hown
  go_enter Tryz.func208, Tryz.ntmps208
  go_wp2_with (go_at_call 126; refine HC.out.mono ?_; rintro e w2 ⟨v', rfl, hown', hg⟩; obtain ⟨hb2, hput, hbel⟩ := WrAt.puts (t := Fr.be4 n) HK.out.1 HK.out.2 hbb (Below.refl _ _) hbw hown' hg; obtain ⟨d0, g0⟩ := one_cell hb2; obtain ⟨a1, p1, rfl⟩ := own_slice hown'; have HP := hid (And.intro hput hbel); clear hown' hg hput hbel)
  go_end0
  exact ⟨rfl, HP.out.1, HP.out.2⟩

set_option maxHeartbeats 1000000 in
set_option maxRecDepth 1000000 in
theorem wRest_any (F : Nat → Prop) (base b : Nat) (l m : List UInt8) (u : Value) (w : World) (h : WrAt base w b l) (hu : BytesAt F w u m) (hl : l.length ≤ 100000000) (hm : m.length ≤ 10000000) (hbw : base ≤ w.heap.size) :
    Calls Tryz.prog 209 #[.pointer (some ⟨b, 0, none⟩), u] w fun e w' => e = .returned (.tuple #[]) ∧ WrAt base w' b (l ++ m) ∧ Below base w w' := by
  obtain ⟨v, hbk, hown, hbb⟩ := h
  obtain ⟨c0, f0⟩ := one_cell hbk
  obtain ⟨i0, hi, hz0, hz1, hz2⟩ := info_parts Tryz.infoByteW
  have HU := hid hu
  have HK := hid (And.intro hbk hown)
  clear hbk hown hu
  go_enter Tryz.func209, Tryz.ntmps209
  go_wp2_with (at_builtin; refine wpList_append_row rfl _ _ 25 rfl base 5 i0 (.int .u8 0) 1 1 Tryz.underlying25 hi hz0 hz1 hz2 rfl (by decide) _ _ _ rfl HK.out.2 F _ m.length (byteCells m) rfl HU.out (oneCell_bytes _) (by unfold maxLen; omega) (by omega) hbw ?_)
  intro v' w2 hown' hg
  obtain ⟨hb2, hput, hbel⟩ := WrAt.puts (t := m) HK.out.1 HK.out.2 hbb (Below.refl _ _) hbw hown' hg
  obtain ⟨d0, g0⟩ := one_cell hb2
  obtain ⟨a1, p1, rfl⟩ := own_slice hown'
  have HP := hid (And.intro hput hbel)
  clear hown' hg hput hbel
  go_wp2
  go_end0
  exact ⟨rfl, HP.out.1, HP.out.2⟩

set_option maxHeartbeats 1000000 in
set_option maxRecDepth 1000000 in
theorem cloneB_any (F : Nat → Prop) (u : Value) (m : List UInt8) (w : World) (hu : BytesAt F w u m) (hne : u ≠ .slice none 0 0) (hm : m.length ≤ 100000000) :
    Calls Tryz.prog 127 #[u] w fun e w' => ∃ v', e = .returned v' ∧ w'.ownsRow w.heap.size 5 1 v' m.length (byteCells m) ∧ Below w.heap.size w w' := by
  obtain ⟨i0, hi, hz0, hz1, hz2⟩ := info_parts Tryz.infoByteW
  obtain ⟨ao, cap, rfl, -, -⟩ := RowAt.slice hu
  cases ao with
  | none =>
    exfalso
    rcases hu.2 with ⟨he, _⟩ | ⟨b, o, cap', he, _⟩
    · exact hne he
    · cases he
  | some a =>
    have HU := hid hu
    have hnil : ∀ W, (binOp .eql 25 (.slice (some a) m.length cap) (.slice none 0 0)).run Tryz.prog W = .ok (.bool false) W := fun W => Lib.run_eql_slice_nil W _ _ (some a) _ _ _ _ Tryz.underlying25
    clear hu hne
    go_enter Tryz.func127, Tryz.ntmps127
    go_wp2_with (at_builtin; refine wpList_append_row rfl _ _ 25 rfl w.heap.size 5 i0 (.int .u8 0) 1 1 Tryz.underlying25 hi hz0 hz1 hz2 rfl (by decide) _ 0 [] rfl (own_nothing (new_at rfl) (Nat.le_refl _)) F _ m.length (byteCells m) rfl (BytesAt.below HU.out ((Below.refl _ _).alloc (Nat.le_refl _) _)) (oneCell_bytes _) (by unfold maxLen; omega) (by omega) (by simp) ?_)
    intro v' w2 hown' hg
    have hb2 : Below w.heap.size w w2 := ((Below.refl _ w).alloc (Nat.le_refl _) _).grown hg (by simp) (fun k hk => by simp [Value.ownBlock] at hk; omega)
    have HB := hid (And.intro hown' hb2)
    clear hown' hg hb2
    go_wp2
    go_ret
    refine ⟨_, rfl, ?_, HB.out.2⟩
    have := HB.out.1
    simpa using this

set_option maxHeartbeats 2000000 in
set_option maxRecDepth 1000000 in
theorem wFrame_any (base b : Nat) (l : List UInt8) (w : World) (h : WrAt base w b l) (h0 : 0 < l.length) (hl : l.length ≤ 10000000) :
    Calls Tryz.prog 82 #[.pointer (some ⟨b, 0, none⟩)] w fun e w' => ∃ v, e = .returned v ∧ w'.ownsRow w.heap.size 5 1 v (Fr.framed l).length (byteCells (Fr.framed l)) ∧ Below w.heap.size w w' := by
  obtain ⟨v, hbk, hown, hbb⟩ := h
  obtain ⟨c0, f0⟩ := one_cell hbk
  obtain ⟨ao, cap, rfl⟩ := own_slice hown
  have hv : BytesAt (fun _ => True) w (.slice ao l.length cap) l := (RowAt.ofOwn hown).mono (fun _ _ _ => trivial)
  have hne : (Value.slice ao l.length cap) ≠ .slice none 0 0 := by
    intro e
    injection e with h1 h2 h3
    omega
  have hblt := lt_of_block hbk
  have HC : Hid (∀ W, Below w.heap.size w W → Calls Tryz.prog 127 #[.slice ao l.length cap] W fun e w' => ∃ v', e = .returned v' ∧ w'.ownsRow W.heap.size 5 1 v' l.length (byteCells l) ∧ Below W.heap.size W w') := fun W hW => cloneB_any (fun _ => True) _ l W (hv.below hW) hne (by omega)
  have HS : Hid (∀ W, Below w.heap.size w W → Calls Tryz.prog 128 #[.slice ao l.length cap] W fun e w' => e = .returned (.int .u32 (Fr.sumN l)) ∧ w' = W) := fun W hW => fSum_any (fun _ => True) _ l W (hv.below hW)
  have hs32 := Fr.sumN_lt l
  clear hv hown hne
  go_enter Tryz.func82, Tryz.ntmps82
  go_wp2
  go_region_held3 (fun W => W.cell? ⟨b, 0, none⟩ = some (.slice ao l.length cap)) (go_keep) (first
    | (go_at_call 127; refine (HC.out _ (by first | exact Below.refl _ _ | exact (Below.refl _ _).drew | exact bel_drewN (Below.refl _ _) _)).mono ?_; rintro e w1 ⟨v1, rfl, ho, hb⟩; have c0' : w1.cell? ⟨b, 0, none⟩ = some (.slice ao l.length cap) := (cell_bel hb ⟨b, 0, none⟩ hblt).trans c0; have HB := hid (And.intro ho hb); clear ho hb)
    | (go_at_call 128; refine (HS.out _ (by exact (bel_drewN (Below.refl _ w) _).trans HB.out.2)).mono ?_; rintro e w2 ⟨rfl, hw⟩; subst hw)
    | (go_at_call 126; refine (appendSum_any _ _ l (Fr.sumN l) _ HB.out.1 hs32 (by omega) HB.out.2.size).mono ?_; rintro e w3 ⟨v3, rfl, ho3, hg3⟩; have c3 : w3.cell? ⟨b, 0, none⟩ = some (.slice ao l.length cap) := (World.cell?_of_block (a := ⟨b, 0, none⟩) (hg3.block b (Nat.lt_of_lt_of_le hblt (by exact HB.out.2.size)) (fun e => Nat.lt_irrefl _ (Nat.lt_of_lt_of_le hblt (own_block HB.out.1 b e.symm).1)))).trans c0'; have HG := hid (And.intro ho3 hg3); clear ho3 hg3))
  go_wp2
  go_ret
  refine ⟨_, rfl, ?_, ?_⟩
  · have h1 := HG.out.1
    have h2 : (Fr.framed l).length = l.length + 4 := by simp [Fr.framed, Fr.sum_length]
    have h3 : byteCells (Fr.framed l) = byteCells l ++ byteCells (Fr.be4 (Fr.sumN l)) := by simp [Fr.framed, Fr.sum, byteCells]
    rw [h2, h3]
    exact h1
  · exact ((Below.drew (Below.refl _ w)).trans HB.out.2).grown HG.out.2 HB.out.2.size (fun k hk => (own_block HB.out.1 k hk).1)

end Go.Proofs.YtfldcmdhneegmaaGreatDoor

/-
  package frame's WALKS, 5: the Writer's Text.
-/
namespace Go.Proofs.YtfldcmdhneegmaaGreatDoor
open Go.RowKit Go.Lib

set_option maxHeartbeats 2000000 in
set_option maxRecDepth 1000000 in
theorem wText_any (base b : Nat) (l t : List UInt8) (w : World) (h : WrAt base w b l) (hl : l.length ≤ 10000000) (ht : t.length ≤ 10000000) (hbw : base ≤ w.heap.size) :
    Calls Tryz.prog 76 #[.pointer (some ⟨b, 0, none⟩), .string ⟨t.toArray⟩] w fun e w' => e = .returned (.tuple #[]) ∧ WrAt base w' b (l ++ (Fr.num t.length ++ t)) ∧ Below base w w' := by
  have hs : (⟨t.toArray⟩ : ByteArray).size = t.length := by simp [ByteArray.size]
  have HC := hid (wCount_any base b l t.length w h (by omega) (by omega) hbw)
  clear h
  go_enter Tryz.func76, Tryz.ntmps76
  obtain ⟨i0, hi, hz0, hz1, hz2⟩ := info_parts Tryz.infoByteW
  have hnl := Fr.num_length64 (n := t.length) (by omega)
  go_wp2_with (first
    | (go_at_call 79; refine HC.out.mono ?_; rintro e w1 ⟨rfl, ⟨v1, hbk, hown, hbb⟩, h2⟩; obtain ⟨c0, f0⟩ := one_cell hbk; have HB := hid (And.intro hbk (And.intro hown h2)); clear hbk hown h2)
    | (at_builtin; refine Lib.wpList_append_own_string _ rfl _ _ 25 9 rfl base 5 i0 Tryz.underlying25 Tryz.underlying9 hi hz0 hz1 hz2 _ _ _ rfl HB.out.2.1 ⟨t.toArray⟩ rfl ?c3 ?c4 ?c5 ?_))
  case c3 => rw [hs, List.length_append]; unfold maxLen; omega
  case c4 => rw [hs, List.length_append]; omega
  case c5 => have := HB.out.2.2.size; omega
  intro v' w2 hown' hg _
  have hc : Lib.strCells ⟨t.toArray⟩ = byteCells t := by simp [Lib.strCells, byteCells]
  rw [hc] at hown'
  obtain ⟨hb2, hput, hbel⟩ := WrAt.puts (t := t) HB.out.1 HB.out.2.1 hbb HB.out.2.2 hbw (by simpa using hown') hg
  obtain ⟨d0, g0⟩ := one_cell hb2
  obtain ⟨a1, p1, rfl⟩ := own_slice hown'
  have HP := hid (And.intro hput hbel)
  clear hown' hg hput hbel hc
  go_wp2
  go_end0
  refine ⟨rfl, ?_, HP.out.2⟩
  rw [← List.append_assoc]
  exact HP.out.1

end Go.Proofs.YtfldcmdhneegmaaGreatDoor
