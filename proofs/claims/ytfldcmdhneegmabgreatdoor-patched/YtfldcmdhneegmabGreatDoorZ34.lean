import Derived.Test.YtfldcmdhneegmabGreatDoorZ33
import Derived.Test.YtfldcmdhneegmabGreatDoorZ09
import Derived.Deep.RegionHeld3
import Derived.Lib.SliceRun
import Derived.Lib.AppendStr
import Derived.Defers
import Derived.Recover

/-
  package frame's WALKS: appendSum; the Writer's Sum, Rest, Frame; slices.Clone at bytes.
-/
namespace Go.Proofs.YtfldcmdhneegmabGreatDoor
open Go.RowKit Go.Lib

theorem grown_alloc {w w' : World} {o : Obj} {x : Option Nat} (h : (w.alloc o).grownBy w' x) : w.grownBy w' x :=
  ⟨h.os, h.tape, h.output, Nat.le_trans (by simp) h.size, fun k hk hne => (h.block k (by simp; omega) hne).trans (Below.heap_alloc _ _ _ hk)⟩
/-- A row of four bytes. -/
theorem be4_row {F : Nat → Prop} {w : World} {b n : Nat} (hn : n < 4294967296) (hF : F b) (h : w.heap[b]? = some (.cells #[.int .u8 ((n : Int) / 16777216), .int .u8 ((n : Int) / 65536 % 256), .int .u8 ((n : Int) / 256 % 256), .int .u8 ((n : Int) % 256)] 5 (0, 0))) :
    BytesAt F w (.slice (some ⟨b, 0, none⟩) 4 4) (Fr.be4 n) := by
  have e : byteCells (Fr.be4 n) = [.int .u8 ((n : Int) / 16777216), .int .u8 ((n : Int) / 65536 % 256), .int .u8 ((n : Int) / 256 % 256), .int .u8 ((n : Int) % 256)] := by
    have h0 : ((UInt8.ofNat (n / 16777216)).toNat : Int) = (n : Int) / 16777216 := by rw [u8_nat]; omega
    have h1 : ((UInt8.ofNat (n / 65536)).toNat : Int) = (n : Int) / 65536 % 256 := by rw [u8_nat]; omega
    have h2 : ((UInt8.ofNat (n / 256)).toNat : Int) = (n : Int) / 256 % 256 := by rw [u8_nat]; omega
    have h3 : ((UInt8.ofNat n).toNat : Int) = (n : Int) % 256 := by rw [u8_nat]
    unfold Fr.be4 byteCells
    simp only [List.map_cons, List.map_nil, h0, h1, h2, h3]
  unfold BytesAt
  rw [e]
  refine ⟨rfl, Or.inr ⟨b, 0, 4, rfl, hF, lt_of_block h, Nat.le_refl _, by unfold maxLen; omega, fun j u hj => ?_⟩⟩
  match j, hj with
  | 0, hj => simp only [List.getElem?_cons_zero, Option.some.injEq] at hj; subst hj; simp [World.cell?, h]
  | 1, hj => simp only [List.getElem?_cons_succ, List.getElem?_cons_zero, Option.some.injEq] at hj; subst hj; simp [World.cell?, h]
  | 2, hj => simp only [List.getElem?_cons_succ, List.getElem?_cons_zero, Option.some.injEq] at hj; subst hj; simp [World.cell?, h]
  | 3, hj => simp only [List.getElem?_cons_succ, List.getElem?_cons_zero, Option.some.injEq] at hj; subst hj; simp [World.cell?, h]
  | j + 4, hj => simp at hj
set_option maxHeartbeats 1000000 in
set_option maxRecDepth 1000000 in
theorem appendSum_any (base : Nat) (v : Value) (l : List UInt8) (n : Nat) (w : World) (hown : w.ownsRow base 5 1 v l.length (byteCells l)) (hn : n < 4294967296) (hl : l.length ≤ 100000000) (hbw : base ≤ w.heap.size) :
    Calls Tryz.prog 76 #[v, .int .u32 n] w fun e w' => ∃ v', e = .returned v' ∧ w'.ownsRow base 5 1 v' (l.length + 4) (byteCells l ++ byteCells (Fr.be4 n)) ∧ w.grownBy w' v.ownBlock := by
  obtain ⟨i0, hi, hz0, hz1, hz2⟩ := info_parts Tryz.infoByteW
  have HO := hid hown
  clear hown
  go_enter Tryz.func76, Tryz.ntmps76
  go_wp2_with (at_builtin; refine wpList_append_row rfl _ _ 25 rfl base 5 i0 (.int .u8 0) 1 1 Tryz.underlying25 hi hz0 hz1 hz2 rfl (by decide) _ _ _ rfl (HO.out.alloc _) (fun _ => True) _ 4 (byteCells (Fr.be4 n)) rfl (be4_row hn trivial (new_at rfl)) (oneCell_bytes _) (by unfold maxLen; omega) (by omega) (by simp; omega) ?_)
  intro v' w2 hown' hg
  have HB := hid (And.intro hown' (grown_alloc hg))
  clear hown' hg
  go_wp2
  go_ret
  exact ⟨_, rfl, HB.out.1, HB.out.2⟩

/-- Some bytes more. -/
theorem WrAt.puts {base b : Nat} {w w1 w2 : World} {l t : List UInt8} {v v' : Value} (hbk : w1.heap[b]? = some (.cells #[v] 150 (0, 0))) (hown : w1.ownsRow base 5 1 v l.length (byteCells l)) (hbb : base ≤ b) (hb1 : Below base w w1) (hbw : base ≤ w.heap.size)
    (hown' : w2.ownsRow base 5 1 v' (l.length + t.length) (byteCells l ++ byteCells t)) (hg : w1.grownBy w2 v.ownBlock) :
    w2.heap[b]? = some (.cells #[v] 150 (0, 0)) ∧ WrAt base (w2.setCell ⟨b, 0, none⟩ v') b (l ++ t) ∧ Below base w (w2.setCell ⟨b, 0, none⟩ v') := by
  have hlt : b < w1.heap.size := lt_of_block hbk
  have hne : some b ≠ v.ownBlock := fun e => by
    obtain ⟨-, c, fz, h⟩ := own_block hown b e.symm
    rw [hbk] at h
    cases h
  have hb2 : w2.heap[b]? = some (.cells #[v] 150 (0, 0)) := (hg.block b hlt hne).trans hbk
  have hne' : ∀ g, v'.ownBlock = some g → g ≠ b := fun g e h => by
    obtain ⟨-, c, fz, h2⟩ := own_block hown' g e
    rw [h, hb2] at h2
    cases h2
  refine ⟨hb2, ⟨v', one_set hb2 v', ?_, hbb⟩, ?_⟩
  · have e1 : (l ++ t).length = l.length + t.length := by simp
    have e2 : byteCells (l ++ t) = byteCells l ++ byteCells t := by simp [byteCells]
    rw [e1, e2]
    exact ownsRow_setCell_other hown' (a := ⟨b, 0, none⟩) (fun e => hne' b e rfl) _
  · exact (hb1.grown hg (Nat.le_trans hbw hb1.size) (fun k hk => (own_block hown k hk).1)).setCell hbb _

set_option maxHeartbeats 1000000 in
set_option maxRecDepth 1000000 in
theorem wSum_any (base b : Nat) (l : List UInt8) (n : Nat) (w : World) (h : WrAt base w b l) (hn : n < 4294967296) (hl : l.length ≤ 100000000) (hbw : base ≤ w.heap.size) :
    Calls Tryz.prog 84 #[.pointer (some ⟨b, 0, none⟩), .int .u32 n] w fun e w' => e = .returned (.tuple #[]) ∧ WrAt base w' b (l ++ Fr.be4 n) ∧ Below base w w' := by
  obtain ⟨v, hbk, hown, hbb⟩ := h
  obtain ⟨c0, f0⟩ := one_cell hbk
  have HC := hid (appendSum_any base v l n w hown hn hl hbw)
  have HK := hid (And.intro hbk hown)
  clear hbk hown
  go_enter Tryz.func84, Tryz.ntmps84
  go_wp2_with (go_at_call 76; refine HC.out.mono ?_; rintro e w2 ⟨v', rfl, hown', hg⟩; obtain ⟨hb2, hput, hbel⟩ := WrAt.puts (t := Fr.be4 n) HK.out.1 HK.out.2 hbb (Below.refl _ _) hbw hown' hg; obtain ⟨d0, g0⟩ := one_cell hb2; obtain ⟨a1, p1, rfl⟩ := own_slice hown'; have HP := hid (And.intro hput hbel); clear hown' hg hput hbel)
  go_end0
  exact ⟨rfl, HP.out.1, HP.out.2⟩

set_option maxHeartbeats 1000000 in
set_option maxRecDepth 1000000 in
theorem wRest_any (F : Nat → Prop) (base b : Nat) (l m : List UInt8) (u : Value) (w : World) (h : WrAt base w b l) (hu : BytesAt F w u m) (hl : l.length ≤ 100000000) (hm : m.length ≤ 10000000) (hbw : base ≤ w.heap.size) :
    Calls Tryz.prog 85 #[.pointer (some ⟨b, 0, none⟩), u] w fun e w' => e = .returned (.tuple #[]) ∧ WrAt base w' b (l ++ m) ∧ Below base w w' := by
  obtain ⟨v, hbk, hown, hbb⟩ := h
  obtain ⟨c0, f0⟩ := one_cell hbk
  obtain ⟨i0, hi, hz0, hz1, hz2⟩ := info_parts Tryz.infoByteW
  have HU := hid hu
  have HK := hid (And.intro hbk hown)
  clear hbk hown hu
  go_enter Tryz.func85, Tryz.ntmps85
  go_wp2_with (at_builtin; refine wpList_append_row rfl _ _ 25 rfl base 5 i0 (.int .u8 0) 1 1 Tryz.underlying25 hi hz0 hz1 hz2 rfl (by decide) _ _ _ rfl HK.out.2 F _ m.length (byteCells m) rfl HU.out (oneCell_bytes _) (by unfold maxLen; omega) (by omega) hbw ?_)
  intro v' w2 hown' hg
  obtain ⟨hb2, hput, hbel⟩ := WrAt.puts (t := m) HK.out.1 HK.out.2 hbb (Below.refl _ _) hbw hown' hg
  obtain ⟨d0, g0⟩ := one_cell hb2
  obtain ⟨a1, p1, rfl⟩ := own_slice hown'
  have HP := hid (And.intro hput hbel)
  clear hown' hg hput hbel
  go_wp2
  go_end0
  exact ⟨rfl, HP.out.1, HP.out.2⟩

set_option maxHeartbeats 1000000 in
set_option maxRecDepth 1000000 in
theorem cloneB_any (F : Nat → Prop) (u : Value) (m : List UInt8) (w : World) (hu : BytesAt F w u m) (hne : u ≠ .slice none 0 0) (hm : m.length ≤ 100000000) :
    Calls Tryz.prog 77 #[u] w fun e w' => ∃ v', e = .returned v' ∧ w'.ownsRow w.heap.size 5 1 v' m.length (byteCells m) ∧ Below w.heap.size w w' := by
  obtain ⟨i0, hi, hz0, hz1, hz2⟩ := info_parts Tryz.infoByteW
  obtain ⟨ao, cap, rfl, -, -⟩ := RowAt.slice hu
  cases ao with
  | none =>
    exfalso
    rcases hu.2 with ⟨he, _⟩ | ⟨b, o, cap', he, _⟩
    · exact hne he
    · cases he
  | some a =>
    have HU := hid hu
    have hnil : ∀ W, (binOp .eql 25 (.slice (some a) m.length cap) (.slice none 0 0)).run Tryz.prog W = .ok (.bool false) W := fun W => Lib.run_eql_slice_nil W _ _ (some a) _ _ _ _ Tryz.underlying25
    clear hu hne
    go_enter Tryz.func77, Tryz.ntmps77
    go_wp2_with (at_builtin; refine wpList_append_row rfl _ _ 25 rfl w.heap.size 5 i0 (.int .u8 0) 1 1 Tryz.underlying25 hi hz0 hz1 hz2 rfl (by decide) _ 0 [] rfl (own_nothing (new_at rfl) (Nat.le_refl _)) F _ m.length (byteCells m) rfl (BytesAt.below HU.out ((Below.refl _ _).alloc (Nat.le_refl _) _)) (oneCell_bytes _) (by unfold maxLen; omega) (by omega) (by simp) ?_)
    intro v' w2 hown' hg
    have hb2 : Below w.heap.size w w2 := ((Below.refl _ w).alloc (Nat.le_refl _) _).grown hg (by simp) (fun k hk => by simp [Value.ownBlock] at hk; omega)
    have HB := hid (And.intro hown' hb2)
    clear hown' hg hb2
    go_wp2
    go_ret
    refine ⟨_, rfl, ?_, HB.out.2⟩
    have := HB.out.1
    simpa using this

set_option maxHeartbeats 2000000 in
set_option maxRecDepth 1000000 in
theorem wFrame_any (base b : Nat) (l : List UInt8) (w : World) (h : WrAt base w b l) (h0 : 0 < l.length) (hl : l.length ≤ 10000000) :
    Calls Tryz.prog 34 #[.pointer (some ⟨b, 0, none⟩)] w fun e w' => ∃ v, e = .returned v ∧ w'.ownsRow w.heap.size 5 1 v (Fr.framed l).length (byteCells (Fr.framed l)) ∧ Below w.heap.size w w' := by
  obtain ⟨v, hbk, hown, hbb⟩ := h
  obtain ⟨c0, f0⟩ := one_cell hbk
  obtain ⟨ao, cap, rfl⟩ := own_slice hown
  have hv : BytesAt (fun _ => True) w (.slice ao l.length cap) l := (RowAt.ofOwn hown).mono (fun _ _ _ => trivial)
  have hne : (Value.slice ao l.length cap) ≠ .slice none 0 0 := by
    intro e
    injection e with h1 h2 h3
    omega
  have hblt := lt_of_block hbk
  have HC : Hid (∀ W, Below w.heap.size w W → Calls Tryz.prog 77 #[.slice ao l.length cap] W fun e w' => ∃ v', e = .returned v' ∧ w'.ownsRow W.heap.size 5 1 v' l.length (byteCells l) ∧ Below W.heap.size W w') := fun W hW => cloneB_any (fun _ => True) _ l W (hv.below hW) hne (by omega)
  have HS : Hid (∀ W, Below w.heap.size w W → Calls Tryz.prog 78 #[.slice ao l.length cap] W fun e w' => e = .returned (.int .u32 (Fr.sumN l)) ∧ w' = W) := fun W hW => fSum_any (fun _ => True) _ l W (hv.below hW)
  have hs32 := Fr.sumN_lt l
  clear hv hown hne
  go_enter Tryz.func34, Tryz.ntmps34
  go_wp2
  go_region_held3 (fun W => W.cell? ⟨b, 0, none⟩ = some (.slice ao l.length cap)) (go_keep) (first
    | (go_at_call 77; refine (HC.out _ (by first | exact Below.refl _ _ | exact (Below.refl _ _).drew | exact bel_drewN (Below.refl _ _) _)).mono ?_; rintro e w1 ⟨v1, rfl, ho, hb⟩; have c0' : w1.cell? ⟨b, 0, none⟩ = some (.slice ao l.length cap) := (cell_bel hb ⟨b, 0, none⟩ hblt).trans c0; have HB := hid (And.intro ho hb); clear ho hb)
    | (go_at_call 78; refine (HS.out _ (by exact (bel_drewN (Below.refl _ w) _).trans HB.out.2)).mono ?_; rintro e w2 ⟨rfl, hw⟩; subst hw)
    | (go_at_call 76; refine (appendSum_any _ _ l (Fr.sumN l) _ HB.out.1 hs32 (by omega) HB.out.2.size).mono ?_; rintro e w3 ⟨v3, rfl, ho3, hg3⟩; have c3 : w3.cell? ⟨b, 0, none⟩ = some (.slice ao l.length cap) := (World.cell?_of_block (a := ⟨b, 0, none⟩) (hg3.block b (Nat.lt_of_lt_of_le hblt (by exact HB.out.2.size)) (fun e => Nat.lt_irrefl _ (Nat.lt_of_lt_of_le hblt (own_block HB.out.1 b e.symm).1)))).trans c0'; have HG := hid (And.intro ho3 hg3); clear ho3 hg3))
  go_wp2
  go_ret
  refine ⟨_, rfl, ?_, ?_⟩
  · have h1 := HG.out.1
    have h2 : (Fr.framed l).length = l.length + 4 := by simp [Fr.framed, Fr.sum_length]
    have h3 : byteCells (Fr.framed l) = byteCells l ++ byteCells (Fr.be4 (Fr.sumN l)) := by simp [Fr.framed, Fr.sum, byteCells]
    rw [h2, h3]
    exact h1
  · exact ((Below.drew (Below.refl _ w)).trans HB.out.2).grown HG.out.2 HB.out.2.size (fun k hk => (own_block HB.out.1 k hk).1)

end Go.Proofs.YtfldcmdhneegmabGreatDoor

/-
  package frame's WALKS, 5: the Writer's Text.
-/
namespace Go.Proofs.YtfldcmdhneegmabGreatDoor
open Go.RowKit Go.Lib

set_option maxHeartbeats 2000000 in
set_option maxRecDepth 1000000 in
theorem wText_any (base b : Nat) (l t : List UInt8) (w : World) (h : WrAt base w b l) (hl : l.length ≤ 10000000) (ht : t.length ≤ 10000000) (hbw : base ≤ w.heap.size) :
    Calls Tryz.prog 28 #[.pointer (some ⟨b, 0, none⟩), .string ⟨t.toArray⟩] w fun e w' => e = .returned (.tuple #[]) ∧ WrAt base w' b (l ++ (Fr.num t.length ++ t)) ∧ Below base w w' := by
  have hs : (⟨t.toArray⟩ : ByteArray).size = t.length := by simp [ByteArray.size]
  have HC := hid (wCount_any base b l t.length w h (by omega) (by omega) hbw)
  clear h
  go_enter Tryz.func28, Tryz.ntmps28
  obtain ⟨i0, hi, hz0, hz1, hz2⟩ := info_parts Tryz.infoByteW
  have hnl := Fr.num_length64 (n := t.length) (by omega)
  go_wp2_with (first
    | (go_at_call 31; refine HC.out.mono ?_; rintro e w1 ⟨rfl, ⟨v1, hbk, hown, hbb⟩, h2⟩; obtain ⟨c0, f0⟩ := one_cell hbk; have HB := hid (And.intro hbk (And.intro hown h2)); clear hbk hown h2)
    | (at_builtin; refine Lib.wpList_append_own_string _ rfl _ _ 25 9 rfl base 5 i0 Tryz.underlying25 Tryz.underlying9 hi hz0 hz1 hz2 _ _ _ rfl HB.out.2.1 ⟨t.toArray⟩ rfl ?c3 ?c4 ?c5 ?_))
  case c3 => rw [hs, List.length_append]; unfold maxLen; omega
  case c4 => rw [hs, List.length_append]; omega
  case c5 => have := HB.out.2.2.size; omega
  intro v' w2 hown' hg _
  have hc : Lib.strCells ⟨t.toArray⟩ = byteCells t := by simp [Lib.strCells, byteCells]
  rw [hc] at hown'
  obtain ⟨hb2, hput, hbel⟩ := WrAt.puts (t := t) HB.out.1 HB.out.2.1 hbb HB.out.2.2 hbw (by simpa using hown') hg
  obtain ⟨d0, g0⟩ := one_cell hb2
  obtain ⟨a1, p1, rfl⟩ := own_slice hown'
  have HP := hid (And.intro hput hbel)
  clear hown' hg hput hbel hc
  go_wp2
  go_end0
  refine ⟨rfl, ?_, HP.out.2⟩
  rw [← List.append_assoc]
  exact HP.out.1

end Go.Proofs.YtfldcmdhneegmabGreatDoor

/-
  package chain's WALKS: between.
-/
namespace Go.Proofs.YtfldcmdhneegmabGreatDoor
open Go.RowKit Go.Lib

theorem BytesAt.part {F : Nat → Prop} {w : World} {ao : Option Addr} {n cap : Nat} {l : List UInt8} (h : BytesAt F w (.slice ao n cap) l) (p q : Nat) (hp : p ≤ q) (hq : q ≤ l.length) : BytesAt F w (Go.sliced ao p q cap 1) ((l.take q).drop p) := by
  have hn : n = l.length := by
    rcases h.2 with ⟨he, h0⟩ | ⟨b, o, cap', he, _⟩
    · cases he; exact h0.symm
    · cases he; rfl
  subst hn
  have := RowAt.sliced (k := 1) h p q hp hq
  unfold BytesAt
  have e1 : ((l.take q).drop p).length = q - p := by rw [List.length_drop, List.length_take]; omega
  have e2 : byteCells ((l.take q).drop p) = ((byteCells l).drop (p * 1)).take ((q - p) * 1) := by
    simp [byteCells, List.map_drop, List.map_take, List.drop_take]
  rw [e1, e2]
  exact this
theorem BytesAt.mid {F : Nat → Prop} {w : World} {a : Addr} {cap : Nat} {l : List UInt8} (h : BytesAt F w (.slice (some a) l.length cap) l) (i j : Int) (p q : Nat) (hi : i = p) (hj : j = q) (hp : p ≤ q) (hq : q ≤ l.length) (hc : l.length ≤ cap) :
    ∃ a' c', (∀ W, (Instr.slice 25 (.slice (some a) l.length cap) (some (.int .i64 i)) (some (.int .i64 j)) none).run Tryz.prog W = .ok (.slice (some a') (q - p) c') W) ∧ BytesAt F w (.slice (some a') (q - p) c') ((l.take q).drop p) := by
  subst hi hj
  have hsl : ∃ a' c', Go.sliced (some a) p q cap 1 = .slice (some a') (q - p) c' := by
    unfold Go.sliced
    split
    · exact ⟨_, _, rfl⟩
    · exact ⟨_, _, rfl⟩
  obtain ⟨a', c', e⟩ := hsl
  refine ⟨a', c', fun W => ?_, e ▸ h.part p q hp hq⟩
  rw [← e, run_slice_lh W 25 (some a) l.length cap (by rw [Tryz.elemBytes]; exact Tryz.underlying25) .i64 .i64 p q (by omega) (by omega) (by omega), Tryz.elemBytes, Tryz.sizeOf5]
  simp [Result.andThen]

theorem blk_four {w : World} {b : Nat} {x y z u : Value} {t : TypeId} (h : w.heap[b]? = some (.cells #[x, y, z, u] t (0, 0))) : w.cell? ⟨b, 0, none⟩ = some x ∧ w.cell? ⟨b, 1, none⟩ = some y ∧ w.cell? ⟨b, 2, none⟩ = some z ∧ w.cell? ⟨b, 3, none⟩ = some u ∧ ∀ i, w.frozen? ⟨b, i, none⟩ = false := by
  simp [World.cell?, World.frozen?, h]

theorem set_four {w : World} {b : Nat} {x y z u : Value} {t : TypeId} (h : w.heap[b]? = some (.cells #[x, y, z, u] t (0, 0))) (v : Value) :
    (w.setCell ⟨b, 0, none⟩ v).heap[b]? = some (.cells #[v, y, z, u] t (0, 0)) ∧ (w.setCell ⟨b, 1, none⟩ v).heap[b]? = some (.cells #[x, v, z, u] t (0, 0)) ∧ (w.setCell ⟨b, 2, none⟩ v).heap[b]? = some (.cells #[x, y, v, u] t (0, 0)) ∧ (w.setCell ⟨b, 3, none⟩ v).heap[b]? = some (.cells #[x, y, z, v] t (0, 0)) := by
  have hlt := lt_of_block h
  have h' : w.heap[b] = .cells #[x, y, z, u] t (0, 0) := by simpa [Array.getElem?_eq_getElem hlt] using h
  refine ⟨?_, ?_, ?_, ?_⟩
  all_goals
    show (w.heap.modify b _)[b]? = _
    rw [Array.getElem?_eq_getElem (by simpa using hlt), Array.getElem_modify_self, h']
    rfl
theorem put_four {w : World} {b : Nat} {x y z u : Value} {t : TypeId} (h : w.heap[b]? = some (.cells #[x, y, z, u] t (0, 0))) (x' y' z' u' : Value) :
    ((((w.setCell ⟨b, 0, none⟩ x').setCell ⟨b, 1, none⟩ y').setCell ⟨b, 2, none⟩ z').setCell ⟨b, 3, none⟩ u').heap[b]? = some (.cells #[x', y', z', u'] t (0, 0)) :=
  (set_four (set_four (set_four (set_four h x').1 y').2.1 z').2.2.1 u').2.2.2
theorem bel_four {B b : Nat} {a w : World} (h : Below B a w) (hb : B ≤ b) (x y z u : Value) : Below B a ((((w.setCell ⟨b, 0, none⟩ x).setCell ⟨b, 1, none⟩ y).setCell ⟨b, 2, none⟩ z).setCell ⟨b, 3, none⟩ u) := (((h.setCell hb _).setCell hb _).setCell hb _).setCell hb _
theorem wrap_u64 {x : Int} (h1 : 0 ≤ x) (h2 : x < 18446744073709551616) : IntKind.u64.wrap x = x := by
  simp only [IntKind.wrap, IntKind.bits, IntKind.signed]
  simp
  omega

/-- A delta, as a value. -/
def dval (s p q : Nat) (vm : Value) : Value := .agg #[.int .u32 s, .int .u64 p, .int .u64 q, vm]
/-- What between answers. -/
def BetweenEnd (G : Nat → Prop) (a b : List UInt8) (w : World) (e : Ending) (w' : World) : Prop :=
  ∃ am cm, e = .returned (dval (Fr.val (Fr.last4 a)) (Fr.cp a b) (Fr.cq a b (Fr.cp a b)) (.slice (some am) (b.length - Fr.cq a b (Fr.cp a b) - Fr.cp a b) cm)) ∧ BytesAt G w' (.slice (some am) (b.length - Fr.cq a b (Fr.cp a b) - Fr.cp a b) cm) ((b.take (b.length - Fr.cq a b (Fr.cp a b))).drop (Fr.cp a b)) ∧ Below w.heap.size w w'

set_option maxHeartbeats 2000000 in
set_option maxRecDepth 1000000 in
theorem between_any (F G : Nat → Prop) (v u : Value) (a b : List UInt8) (w : World) (hv : BytesAt F w v a) (hu : BytesAt G w u b) (h4 : 4 ≤ a.length) (h0 : 0 < b.length) (ha : a.length ≤ 1000000) (hb : b.length ≤ 1000000) :
    Calls Tryz.prog 36 #[v, u] w (BetweenEnd G a b w) := by
  obtain ⟨ao, ca, rfl, -, -⟩ := RowAt.slice hv
  obtain ⟨bo, cb, rfl, hcb, -⟩ := RowAt.slice hu
  obtain ⟨b1, o1, rfl, -⟩ := BytesAt.get hv (i := 0) (by omega)
  obtain ⟨b2, o2, rfl, -⟩ := BytesAt.get hu (i := 0) h0
  obtain ⟨hpa, hpb⟩ := Fr.cp_le a b
  obtain ⟨hqa, hqb⟩ := Fr.cq_le a b (Fr.cp a b)
  have hcq : Fr.cp (a.drop (Fr.cp a b)).reverse (b.drop (Fr.cp a b)).reverse = Fr.cq a b (Fr.cp a b) := rfl
  generalize hp : Fr.cp a b = p at *
  obtain ⟨va, hna, hsa, hva⟩ := hv.tail (p : Int) p rfl hpa
  obtain ⟨vb, hnb, hsb, hvb⟩ := hu.tail (p : Int) p rfl hpb
  have hal : (a.drop p).length ≤ 1000000 := by rw [List.length_drop]; omega
  have hbl : (b.drop p).length ≤ 1000000 := by rw [List.length_drop]; omega
  generalize hq : Fr.cq a b p = q at *
  obtain ⟨am, cm, hsm, hvm⟩ := hu.mid (p : Int) ((b.length : Int) - q) p (b.length - q) rfl (by omega) (by omega) (by omega) hcb
  have hB : ∀ o n, Below w.heap.size w ((w.alloc o).drewN n) := fun o n => bel_drewN ((Below.refl _ _).alloc (Nat.le_refl _) _) n
  have HC1 : Hid (∀ o, Calls Tryz.prog 81 #[.slice (some ⟨b1, o1, none⟩) a.length ca, .slice (some ⟨b2, o2, none⟩) b.length cb] (w.alloc o) fun e w' => e = .returned (.int .i64 p) ∧ ∃ q, w' = (w.alloc o).drewN q) := fun o => by
    have := alike_any F G _ _ a b (w.alloc o) (hv.below (hB o 0)) (hu.below (hB o 0)) ha
    rw [hp] at this
    exact this
  have HC2 : Hid (∀ W, Below w.heap.size w W → Calls Tryz.prog 82 #[va, vb] W fun e w' => e = .returned (.int .i64 q) ∧ ∃ m, w' = W.drewN m) := fun W hW => by
    have := alikeEnd_any F G _ _ (a.drop p) (b.drop p) W (hva.below hW) (hvb.below hW) hal hbl
    rw [hcq] at this
    exact this
  have HC3 := hid (fun W (hW : Below w.heap.size w W) => fSumOf_any F _ a W (hv.below hW) h4 ha)
  have HVM := hid hvm
  have HQ := hid hq
  have HPP := hid hp
  have hwr : IntKind.i64.wrap ((b.length : Int) - (q : Int)) = (b.length : Int) - (q : Int) := wrap_i64 (by omega) (by omega)
  have hpq : (p : Int) ≤ (b.length : Int) - (q : Int) := by omega
  clear hv hu hva hvb hvm hcq hq hp hB
  go_enter Tryz.func36, Tryz.ntmps36
  go_wp2_with (go_at_call 81; refine (HC1.out _).mono ?_; rintro e w1 ⟨rfl, q1, hw⟩; have hk4 : w1.heap[w.heap.size]? = some (.cells #[.int .u32 0, .int .u64 0, .int .u64 0, .slice none 0 0] 91 (0, 0)) := (by rw [hw]; exact heap_alloc_new w _); obtain ⟨d0, d1, d2, d3, dz⟩ := blk_four hk4; have HK := hid hk4; have HB1 : Hid (Below w.heap.size w w1) := (by rw [hw]; exact bel_drewN ((Below.refl _ _).alloc (Nat.le_refl _) _) _); clear hk4 hw)
  go_quiet ((go_at_call 82; exact Calls.quiet_of (HC2.out _ (bel_drewN HB1.out _))))
  go_wp2
  go_region_held3 (fun _ => True) (exact trivial) ((go_at_call 83; refine (HC3.out _ (by first | exact bel_drewN HB1.out _ | exact Below.drew (bel_drewN HB1.out _))).mono ?_; rintro e w3 ⟨rfl, hw⟩; subst hw))
  all_goals
    go_wp2
  have hp4 := put_four (show (w1.drewN (nq + 1)).heap[w.heap.size]? = _ from HK.out) (Value.int IntKind.u32 (Fr.val (a.drop (a.length - 4)))) (Value.int IntKind.u64 (IntKind.u64.wrap p)) (Value.int IntKind.u64 (IntKind.u64.wrap q)) (Value.slice (some am) (b.length - q - p) cm)
  obtain ⟨g0, g1, g2, g3, -⟩ := blk_four hp4
  have HBF := hid (bel_four (bel_drewN HB1.out (nq + 1)) (Nat.le_refl _) (Value.int IntKind.u32 (Fr.val (a.drop (a.length - 4)))) (Value.int IntKind.u64 (IntKind.u64.wrap p)) (Value.int IntKind.u64 (IntKind.u64.wrap q)) (Value.slice (some am) (b.length - q - p) cm))
  refine bodyPost_ret (v := .agg #[Value.int IntKind.u32 (Fr.val (a.drop (a.length - 4))), Value.int IntKind.u64 (IntKind.u64.wrap p), Value.int IntKind.u64 (IntKind.u64.wrap q), Value.slice (some am) (b.length - q - p) cm]) (by simp [results, Tryz.results36, go_sem, g0, g1, g2, g3]) rfl ?_
  unfold BetweenEnd
  rw [HPP.out, HQ.out]
  refine ⟨am, cm, ?_, HVM.out.below HBF.out, HBF.out⟩
  rw [wrap_u64 (by omega) (by omega), wrap_u64 (by omega) (by omega)]
  rfl

end Go.Proofs.YtfldcmdhneegmabGreatDoor

/-
  Words about a delta in a block; Check of a state.
-/
namespace Go.Proofs.YtfldcmdhneegmabGreatDoor
open Go.RowKit Go.Lib

theorem box_at {w W : World} {x y z u : Value} {t : TypeId} (h : Below (w.heap.size + 1) (w.alloc (.cells #[x, y, z, u] t)) W) : W.cell? ⟨w.heap.size, 0, none⟩ = some x ∧ W.cell? ⟨w.heap.size, 1, none⟩ = some y ∧ W.cell? ⟨w.heap.size, 2, none⟩ = some z ∧ W.cell? ⟨w.heap.size, 3, none⟩ = some u := by
  obtain ⟨h0, h1, h2, h3, -⟩ := blk_four ((h.block w.heap.size (by omega)).trans (heap_alloc_new w _))
  exact ⟨h0, h1, h2, h3⟩

theorem fCheckS_any (F : Nat → Prop) (v : Value) (l : List UInt8) (w : World) (hv : BytesAt F w v l) (hl : l.length ≤ 1000000) :
    Calls Tryz.prog 35 #[.int .u8 83, v] w (CheckEnd l 83 w) := by
  have h := fCheck_any F v l 83 w hv hl
  have e : (((83 : UInt8).toNat : Nat) : Int) = 83 := by decide
  rw [e] at h
  exact h
theorem sound_four {l : List UInt8} {kind : UInt8} (h : (Fr.sound l kind).isSome = true) : 5 ≤ l.length := by
  obtain ⟨c, hc⟩ := Option.isSome_iff_exists.1 h
  exact sound_five hc

end Go.Proofs.YtfldcmdhneegmabGreatDoor

/-
  package chain's WALKS: a delta's frame; Delta.
-/
namespace Go.Proofs.YtfldcmdhneegmabGreatDoor
open Go.RowKit Go.Lib

theorem newWriterD_any (w : World) :
    Calls Tryz.prog 27 #[.int .u8 68] w fun e w' => ∃ b, e = .returned (.pointer (some ⟨b, 0, none⟩)) ∧ WrAt w.heap.size w' b [68] ∧ Below w.heap.size w w' := by
  have h := newWriter_any 68 w
  have e : (((68 : UInt8).toNat : Nat) : Int) = 68 := by decide
  rw [e] at h
  exact h
set_option maxHeartbeats 2000000 in
set_option maxRecDepth 1000000 in
theorem dFrame_any (G : Nat → Prop) (s p q : Nat) (am : Addr) (n cm : Nat) (m : List UInt8) (w : World) (hs : s < 4294967296) (hp : p < 18446744073709551616) (hq : q < 18446744073709551616) (hm : BytesAt G w (.slice (some am) n cm) m) (hml : m.length ≤ 1000000) :
    Calls Tryz.prog 37 #[dval s p q (.slice (some am) n cm)] w fun e w' => ∃ v, e = .returned v ∧ w'.ownsRow w.heap.size 5 1 v (Fr.framed (68 :: (Fr.be4 s ++ Fr.num p ++ Fr.num q ++ m))).length (byteCells (Fr.framed (68 :: (Fr.be4 s ++ Fr.num p ++ Fr.num q ++ m)))) ∧ Below w.heap.size w w' := by
  have hp10 := Fr.num_length64 hp
  have hq10 := Fr.num_length64 hq
  have h4 : (Fr.be4 s).length = 4 := rfl
  have HM := hid hm
  have HL := hid (And.intro hp10 (And.intro hq10 h4))
  have hsz : ∀ o, (w.alloc o).heap.size = w.heap.size + 1 := fun o => by simp
  have HSZ := hid hsz
  clear hm hp10 hq10 h4 hsz
  unfold dval
  go_enter Tryz.func37, Tryz.ntmps37
  go_wp2_with (first
    | (go_at_call 27; refine (newWriterD_any _).mono ?_; rintro e w1 ⟨b, rfl, hr, hb⟩; rw [HSZ.out] at hr hb; have H1 := hid (And.intro hr hb); obtain ⟨x0, x1, x2, x3⟩ := box_at hb; clear hr hb)
    | (go_at_call 84; refine (wSum_any _ _ _ s _ H1.out.1 hs (by simp) (by have := H1.out.2.size; rw [HSZ.out] at this; exact this)).mono ?_; rintro e w2 ⟨rfl, hr, hb⟩; have H2 := hid (And.intro hr (H1.out.2.trans hb)); obtain ⟨y0, y1, y2, y3⟩ := box_at (H1.out.2.trans hb); clear hr hb)
    | (go_at_call_of 75 (Value.int IntKind.u64 p); refine (wNumber_any _ _ _ p _ H2.out.1 hp (by have := HL.out.2.2; simp [this]) (by have := H2.out.2.size; rw [HSZ.out] at this; exact this)).mono ?_; rintro e w3 ⟨rfl, hr, hb⟩; have H3 := hid (And.intro hr (H2.out.2.trans hb)); obtain ⟨z0, z1, z2, z3⟩ := box_at (H2.out.2.trans hb); clear hr hb)
    | (go_at_call_of 75 (Value.int IntKind.u64 q); refine (wNumber_any _ _ _ q _ H3.out.1 hq (by have := HL.out; simp; omega) (by have := H3.out.2.size; rw [HSZ.out] at this; exact this)).mono ?_; rintro e w4 ⟨rfl, hr, hb⟩; have H4 := hid (And.intro hr (H3.out.2.trans hb)); obtain ⟨u0, u1, u2, u3⟩ := box_at (H3.out.2.trans hb); clear hr hb)
    | (go_at_call 85; refine (wRest_any G _ _ _ m _ _ H4.out.1 (HM.out.below (((Below.refl _ _).alloc (Nat.le_refl _) _).trans (H4.out.2.mono (by omega)))) (by have := HL.out; simp; omega) (by omega) (by have := H4.out.2.size; rw [HSZ.out] at this; exact this)).mono ?_; rintro e w5 ⟨rfl, hr, hb⟩; have H5 := hid (And.intro hr (H4.out.2.trans hb)); clear hr hb)
    | (go_at_call 34; refine (wFrame_any _ _ _ _ H5.out.1 (by simp) (by have := HL.out; simp; omega)).mono ?_; rintro e w6 ⟨v6, rfl, hr, hb⟩; have H6 := hid (And.intro hr hb); clear hr hb))
  go_ret
  have e1 : (68 : UInt8) :: (Fr.be4 s ++ Fr.num p ++ Fr.num q ++ m) = [68] ++ Fr.be4 s ++ Fr.num p ++ Fr.num q ++ m := by simp
  have hbw : Below w.heap.size w w5 := ((Below.refl _ _).alloc (Nat.le_refl _) _).trans (H5.out.2.mono (by omega))
  refine ⟨_, rfl, ?_, hbw.trans (H6.out.2.mono hbw.size)⟩
  rw [e1]
  exact own_mono H6.out.1 hbw.size

/-- What the program's Delta answers. -/
def PDeltaEnd (a b : List UInt8) (w : World) (e : Ending) (w' : World) : Prop :=
  Below w.heap.size w w' ∧
    if (Fr.sound a 83).isSome = true ∧ (Fr.sound b 83).isSome = true then ∃ v, e = .returned (.tuple #[v, .nilIface]) ∧ w'.ownsRow w.heap.size 5 1 v (Fr.delta a b).length (byteCells (Fr.delta a b))
    else ∃ (n : Int) (s : ByteArray), e = .returned (.tuple #[.slice none 0 0, .iface 101 (.agg #[.int .i64 n, .string s])])
theorem pdelta_no {a b : List UInt8} {w w' : World} {n : Int} {s : ByteArray} (h : ¬ ((Fr.sound a 83).isSome = true ∧ (Fr.sound b 83).isSome = true)) (hb : Below w.heap.size w w') : PDeltaEnd a b w (.returned (.tuple #[.slice none 0 0, .iface 101 (.agg #[.int .i64 n, .string s])])) w' := by
  unfold PDeltaEnd
  rw [if_neg h]
  exact ⟨hb, n, s, rfl⟩

set_option maxHeartbeats 2000000 in
set_option maxRecDepth 1000000 in
theorem cDelta_any (F G : Nat → Prop) (v u : Value) (a b : List UInt8) (w : World) (hv : BytesAt F w v a) (hu : BytesAt G w u b) (ha : a.length ≤ 500000) (hb : b.length ≤ 500000) :
    Calls Tryz.prog 18 #[v, u] w (PDeltaEnd a b w) := by
  have HV := hid hv
  have HU := hid hu
  have HA := hid (fCheckS_any F v a w hv (by omega))
  clear hv hu
  cases h1 : (Fr.sound a 83).isSome with
  | false =>
    have HX := hid h1
    clear h1
    go_enter Tryz.func18, Tryz.ntmps18
    go_wp2_with (go_at_call 35; refine HA.out.mono ?_; rintro e w1 ⟨hb1, -, he⟩; obtain ⟨n1, s1, rfl⟩ := he HX.out; have HB1 := hid hb1; clear hb1 he)
    go_ret2
    exact pdelta_no (by rw [HX.out]; simp) HB1.out
  | true =>
    have H1 := hid h1
    clear h1
    cases h2 : (Fr.sound b 83).isSome with
    | false =>
      have HX := hid h2
      clear h2
      go_enter Tryz.func18, Tryz.ntmps18
      go_wp2_with (first
        | (go_at_call_of 35 v; refine HA.out.mono ?_; rintro e w1 ⟨hb1, he, -⟩; obtain rfl := he H1.out; have HB1 := hid hb1; clear hb1 he)
        | (go_at_call 35; refine (fCheckS_any G u b _ (HU.out.below HB1.out) (by omega)).mono ?_; rintro e w2 ⟨hb2, -, he⟩; obtain ⟨n1, s1, rfl⟩ := he HX.out; have HB2 := hid (HB1.out.trans (hb2.mono HB1.out.size)); clear hb2 he))
      go_ret2
      exact pdelta_no (by rw [HX.out]; simp) HB2.out
    | true =>
      have H2 := hid h2
      clear h2
      have h5a := sound_four H1.out
      have h5b := sound_four H2.out
      obtain ⟨hpa, -⟩ := Fr.cp_le a b
      obtain ⟨hqa, -⟩ := Fr.cq_le a b (Fr.cp a b)
      have hml : ((b.take (b.length - Fr.cq a b (Fr.cp a b))).drop (Fr.cp a b)).length ≤ 1000000 := by rw [List.length_drop, List.length_take]; omega
      go_enter Tryz.func18, Tryz.ntmps18
      go_wp2_with (first
        | (go_at_call_of 35 v; refine HA.out.mono ?_; rintro e w1 ⟨hb1, he, -⟩; obtain rfl := he H1.out; have HB1 := hid hb1; clear hb1 he)
        | (go_at_call 35; refine (fCheckS_any G u b _ (HU.out.below HB1.out) (by omega)).mono ?_; rintro e w2 ⟨hb2, he, -⟩; obtain rfl := he H2.out; have HB2 := hid (HB1.out.trans (hb2.mono HB1.out.size)); clear hb2 he)
        | (go_at_call 36; refine (between_any F G v u a b _ (HV.out.below HB2.out) (HU.out.below HB2.out) (by omega) (by omega) (by omega) (by omega)).mono ?_; rintro e w3 ⟨am, cm, rfl, hm3, hb3⟩; have HB3 := hid (And.intro hm3 (HB2.out.trans (hb3.mono HB2.out.size))); clear hm3 hb3)
        | (go_at_call 37; refine (dFrame_any G _ _ _ am _ cm _ _ (Fr.val_lt _) (by omega) (by omega) HB3.out.1 hml).mono ?_; rintro e w4 ⟨v4, rfl, ho4, hb4⟩; have HB4 := hid (And.intro ho4 (And.intro HB3.out.2 (HB3.out.2.trans (hb4.mono HB3.out.2.size)))); clear ho4 hb4))
      go_ret2
      unfold PDeltaEnd
      rw [if_pos ⟨H1.out, H2.out⟩]
      refine ⟨HB4.out.2.2, _, rfl, ?_⟩
      have hl4 : (Fr.last4 a).length = 4 := by unfold Fr.last4; rw [List.length_drop]; omega
      have h := HB4.out.1
      rw [Fr.be4_val hl4] at h
      exact own_mono h HB4.out.2.1.size

end Go.Proofs.YtfldcmdhneegmabGreatDoor

/-
  package frame's WALKS: Read at a delta (its result lies in a block of its own).
-/
namespace Go.Proofs.YtfldcmdhneegmabGreatDoor
open Go.RowKit Go.Lib

theorem one_setD {w : World} {b : Nat} {v : Value} {t : TypeId} (h : w.heap[b]? = some (.cells #[v] t (0, 0))) (u : Value) : (w.setCell ⟨b, 0, none⟩ u).heap[b]? = some (.cells #[u] t (0, 0)) := by
  have hlt := lt_of_block h
  have h' : w.heap[b] = .cells #[v] t (0, 0) := by simpa [Array.getElem?_eq_getElem hlt] using h
  show (w.heap.modify b _)[b]? = _
  rw [Array.getElem?_eq_getElem (by simpa using hlt), Array.getElem_modify_self, h']
  rfl
theorem one_cellD {w : World} {b : Nat} {v : Value} {t : TypeId} (h : w.heap[b]? = some (.cells #[v] t (0, 0))) : w.cell? ⟨b, 0, none⟩ = some v ∧ w.frozen? ⟨b, 0, none⟩ = false := by simp [World.cell?, World.frozen?, h]

set_option maxHeartbeats 1000000 in
theorem readD1_idle (p : Addr) (w : World) :
    CallsD Tryz.prog 161 #[.pointer (some p)] .returning w fun e u' w' => e = .returned (.tuple #[]) ∧ u' = .returning ∧ w' = w := by
  refine callsD_of_wpS Tryz.func161 rfl fun c₀ cs hu => ?_
  apply wpS_seq
  apply wpS_region
  simp [wpOpsS, go_sem, recoverD, hu, Tryz.ntmps161, Exit.thenS]
  refine wpS_of_wp ?_
  go_wp2
  cases c₀
  simp_all [bodyPostS, results, Tryz.results161]

theorem Tryz.assertBytesD (v : Value) (w : World) : (Instr.typeAssert (.iface 101 v) 20 101 true).run Tryz.prog w = .ok (.tuple #[v, .bool true]) w := by kernel_rfl

set_option maxHeartbeats 1000000 in
set_option maxRecDepth 100000 in
theorem readD1_caught (pb : Nat) (n : Int) (s : ByteArray) (older : List PanicEntry) (w : World) (u0 : Value) (hc : w.cell? ⟨pb, 0, none⟩ = some u0) (hz : w.frozen? ⟨pb, 0, none⟩ = false) :
    CallsD Tryz.prog 161 #[.pointer (some ⟨pb, 0, none⟩)] (.panicking ({ v := .iface 101 (.agg #[.int .i64 n, .string s]), recovered := false } :: older)) w fun e u' w' =>
      e = .returned (.tuple #[]) ∧ u' = .panicking ({ v := .iface 101 (.agg #[.int .i64 n, .string s]), recovered := true } :: older) ∧ ∃ o, w' = (w.setCell ⟨pb, 0, none⟩ (.iface 101 (.agg #[.int .i64 n, .string s]))).alloc o := by
  have hta := Tryz.assertBytesD (.agg #[.int .i64 n, .string s])
  have hlt : pb < w.heap.size := World.block_lt_of_cell? w ⟨pb, 0, none⟩ hc
  have hca : ∀ o, (w.alloc o).cell? ⟨pb, 0, none⟩ = some u0 := fun o => (World.cell?_alloc_lt w o ⟨pb, 0, none⟩ hlt).trans hc
  have hfa : ∀ o, (w.alloc o).frozen? ⟨pb, 0, none⟩ = false := fun o => (World.frozen?_alloc_old w o ⟨pb, 0, none⟩ (Nat.ne_of_lt hlt)).trans hz
  refine callsD_of_wpS Tryz.func161 rfl fun c₀ cs hu => ?_
  apply wpS_seq
  apply wpS_region
  simp [wpOpsS, go_sem, recoverD, hu, Tryz.ntmps161, Exit.thenS]
  refine wpS_of_wp ?_
  go_wp2
  simp [bodyPostS, results, Tryz.results161]
  exact ⟨_, rfl⟩

/-- What Read answers where the bytes are none: no delta, an error about the bytes. -/
def ReadNoD (w : World) (e : Ending) (w' : World) : Prop :=
  ∃ (n : Int) (s : ByteArray), e = .returned (.tuple #[dval 0 0 0 (.slice none 0 0), .iface 101 (.agg #[.int .i64 n, .string s])]) ∧ Below w.heap.size w w'

set_option maxHeartbeats 2000000 in
set_option maxRecDepth 1000000 in
/-- The door, met by a panic about the bytes. -/
theorem read_doorD {w w1 : World} {tmps : Array Value} {n : Int} {s : ByteArray} (h6 : tmps[6]?.getD undef = .pointer (some ⟨w.heap.size, 0, none⟩)) (h7 : tmps[7]?.getD undef = .pointer (some ⟨w.heap.size + 1, 0, none⟩)) (HB : Below (w.heap.size + 2) ((w.alloc (.cells #[.int .u32 0, .int .u64 0, .int .u64 0, .slice none 0 0] 91)).alloc (.cells #[.nilIface] 55)) w1) :
    bodyPostD Tryz.prog Tryz.f95 (ReadNoD w) (Exit.panic [{ v := .iface 101 (.agg #[.int .i64 n, .string s]), recovered := false }])
      { tmps := tmps, defers := [{ target := Target.fn (Fn.func 161) #[.pointer (some ⟨w.heap.size + 1, 0, none⟩)], args := #[] }] } w1 := by
  have hk1 : w1.heap[w.heap.size + 1]? = some (.cells #[.nilIface] 55 (0, 0)) := (HB.block (w.heap.size + 1) (by omega)).trans (new_at (by simp))
  have hk0 : w1.heap[w.heap.size]? = some (.cells #[.int .u32 0, .int .u64 0, .int .u64 0, .slice none 0 0] 91 (0, 0)) := (HB.block w.heap.size (by omega)).trans ((Below.heap_alloc _ _ _ (by simp)).trans (heap_alloc_new w _))
  obtain ⟨hc1, hz1⟩ := one_cellD hk1
  have hlt1 : w.heap.size + 1 < w1.heap.size := lt_of_block hk1
  refine leaves_cons (f := 161) (args := #[.pointer (some ⟨w.heap.size + 1, 0, none⟩)]) (by simp) (by simp [go_sem]) ?_
  refine (readD1_caught (w.heap.size + 1) n s [] _ .nilIface hc1 hz1).mono ?_
  rintro e u' w'' ⟨rfl, rfl, o, hw⟩
  have hlt2 : w.heap.size + 1 < (w1.setCell ⟨w.heap.size + 1, 0, none⟩ (.iface 101 (.agg #[.int .i64 n, .string s]))).heap.size := by show _ < (w1.heap.modify _ _).size; rw [Array.size_modify]; exact hlt1
  have hc2 : w''.cell? ⟨w.heap.size + 1, 0, none⟩ = some (.iface 101 (.agg #[.int .i64 n, .string s])) := by
    rw [hw, World.cell?_alloc_lt _ o ⟨w.heap.size + 1, 0, none⟩ hlt2]
    exact World.cell?_setCell_same _ _ _ hc1
  have hk2 : w''.heap[w.heap.size]? = some (.cells #[.int .u32 0, .int .u64 0, .int .u64 0, .slice none 0 0] 91 (0, 0)) := by
    rw [hw, Below.heap_alloc _ _ _ (by omega)]
    exact ((but_set w1 (w.heap.size + 1) 0 _).block w.heap.size (by omega) (by intro e; injection e with e; omega)).trans hk0
  obtain ⟨g0, g1, g2, g3, -⟩ := blk_four hk2
  have hb2 : Below w.heap.size w w'' := by
    rw [hw]
    exact ((((((Below.refl _ w).alloc (Nat.le_refl _) _).alloc (by simp) _).trans (HB.mono (by omega))).setCell (by show w.heap.size ≤ w.heap.size + 1; omega) _)).alloc (by omega) _
  simp [Leaves, settle, results, Tryz.results95, go_sem, h6, h7, hc2, g0, g1, g2, g3]
  exact ⟨n, s, rfl, hb2⟩

set_option maxHeartbeats 2000000 in
set_option maxRecDepth 1000000 in
theorem readD_unsound (F : Nat → Prop) (v : Value) (l : List UInt8) (kind : UInt8) (rd : Value) (w : World) (hv : BytesAt F w v l) (hl : l.length ≤ 1000000) (hs : Fr.sound l kind = none) :
    Calls Tryz.prog 95 #[.int .u8 kind.toNat, v, rd] w (ReadNoD w) := by
  have hmf : ∀ (fn : Fn) (first cap : Array Value) (w : World), (Instr.makeFunc fn first cap).run Tryz.prog w = .ok (.func fn first cap) w := fun _ _ _ _ => rfl
  have HO := hid (fOpen_any F v l kind ((w.alloc (.cells #[.int .u32 0, .int .u64 0, .int .u64 0, .slice none 0 0] 91)).alloc (.cells #[.nilIface] 55)) (hv.below (((Below.refl _ _).alloc (Nat.le_refl _) _).alloc (by simp) _)) hl)
  have HS := hid hs
  clear hv hs
  go_enter_defers Tryz.func95, Tryz.ntmps95
  go_wp2_with (go_at_call 88; refine HO.out.mono ?_; rintro e w1 ⟨hb, he⟩; rw [HS.out] at he; obtain ⟨n1, s1, rfl⟩ := he; have HB := hid hb; clear hb)
  exact read_doorD (n := n1) (s := s1) rfl rfl (by simpa using HB.out)

set_option maxHeartbeats 2000000 in
set_option maxRecDepth 1000000 in
theorem readD_panics (F : Nat → Prop) (v : Value) (l c : List UInt8) (kind : UInt8) (w : World) (hv : BytesAt F w v l) (hl : l.length ≤ 1000000) (hs : Fr.sound l kind = some c)
    (hr : ∀ (W : World) (v' : Value), Below (w.heap.size + 2) ((w.alloc (.cells #[.int .u32 0, .int .u64 0, .int .u64 0, .slice none 0 0] 91)).alloc (.cells #[.nilIface] 55)) W → RdAt W (w.heap.size + 2) v' 1 → BytesAt F W v' (l.take (l.length - 4)) →
      Calls Tryz.prog 96 #[.pointer (some ⟨w.heap.size + 2, 0, none⟩)] W fun e w' => BytesPanic e ∧ Below (w.heap.size + 2) W w') :
    Calls Tryz.prog 95 #[.int .u8 kind.toNat, v, .func (.func 96) #[] #[]] w (ReadNoD w) := by
  have hmf : ∀ (fn : Fn) (first cap : Array Value) (w : World), (Instr.makeFunc fn first cap).run Tryz.prog w = .ok (.func fn first cap) w := fun _ _ _ _ => rfl
  have HO := hid (fOpen_any F v l kind ((w.alloc (.cells #[.int .u32 0, .int .u64 0, .int .u64 0, .slice none 0 0] 91)).alloc (.cells #[.nilIface] 55)) (hv.below (((Below.refl _ _).alloc (Nat.le_refl _) _).alloc (by simp) _)) hl)
  have hsz : ((w.alloc (.cells #[.int .u32 0, .int .u64 0, .int .u64 0, .slice none 0 0] 91)).alloc (.cells #[.nilIface] 55)).heap.size = w.heap.size + 2 := by simp
  have HSZ := hid hsz
  have HS := hid hs
  have HR := hid hr
  clear hv hs hr hsz
  go_enter_defers Tryz.func95, Tryz.ntmps95
  go_wp2_with (first
    | (go_at_call 88; refine HO.out.mono ?_; rintro e w1 ⟨hb, he⟩; rw [HS.out] at he; obtain ⟨v1, rfl, h1, h2⟩ := he; rw [HSZ.out] at hb h1; have HB := hid (And.intro hb (And.intro h1 h2)); clear hb h1 h2)
    | (go_at_call 96; refine (HR.out _ v1 HB.out.1 HB.out.2.1 HB.out.2.2).mono ?_; rintro e w2 ⟨⟨n2, s2, rfl⟩, hb2⟩; have HB2 := hid hb2; clear hb2))
  exact read_doorD (n := n2) (s := s2) rfl rfl (HB.out.1.trans HB2.out)

set_option maxHeartbeats 4000000 in
set_option maxRecDepth 1000000 in
theorem readD_ok (F : Nat → Prop) (v : Value) (l c : List UInt8) (kind : UInt8) (w : World) (hv : BytesAt F w v l) (hl : l.length ≤ 1000000) (hs : Fr.sound l kind = some c) (s p q : Nat) (P : Value → World → Prop)
    (hr : ∀ (W : World) (v' : Value), Below (w.heap.size + 2) ((w.alloc (.cells #[.int .u32 0, .int .u64 0, .int .u64 0, .slice none 0 0] 91)).alloc (.cells #[.nilIface] 55)) W → RdAt W (w.heap.size + 2) v' 1 → BytesAt F W v' (l.take (l.length - 4)) →
      Calls Tryz.prog 96 #[.pointer (some ⟨w.heap.size + 2, 0, none⟩)] W fun e w' => ∃ am n cm, e = .returned (dval s p q (.slice (some am) n cm)) ∧ RdAt w' (w.heap.size + 2) v' (l.length - 4) ∧ Below (w.heap.size + 2) W w' ∧ P (.slice (some am) n cm) w') :
    Calls Tryz.prog 95 #[.int .u8 kind.toNat, v, .func (.func 96) #[] #[]] w fun e w' => ∃ am n cm w2, e = .returned (.tuple #[dval s p q (.slice (some am) n cm), .nilIface]) ∧ P (.slice (some am) n cm) w2 ∧ Below w.heap.size w w2 ∧ Below w.heap.size w w' := by
  have hmf : ∀ (fn : Fn) (first cap : Array Value) (w : World), (Instr.makeFunc fn first cap).run Tryz.prog w = .ok (.func fn first cap) w := fun _ _ _ _ => rfl
  have h5 : 5 ≤ l.length := by
    unfold Fr.sound at hs
    split at hs
    · rename_i h; exact h.1
    · cases hs
  have HO := hid (fOpen_any F v l kind ((w.alloc (.cells #[.int .u32 0, .int .u64 0, .int .u64 0, .slice none 0 0] 91)).alloc (.cells #[.nilIface] 55)) (hv.below (((Below.refl _ _).alloc (Nat.le_refl _) _).alloc (by simp) _)) hl)
  have hsz : ((w.alloc (.cells #[.int .u32 0, .int .u64 0, .int .u64 0, .slice none 0 0] 91)).alloc (.cells #[.nilIface] 55)).heap.size = w.heap.size + 2 := by simp
  have HSZ := hid hsz
  have HS := hid hs
  have HR := hid hr
  clear hv hs hr hsz
  unfold dval at *
  go_enter_defers Tryz.func95, Tryz.ntmps95
  go_wp2_with (first
    | (go_at_call 88; refine HO.out.mono ?_; rintro e w1 ⟨hb, he⟩; rw [HS.out] at he; obtain ⟨v1, rfl, h1, h2⟩ := he; rw [HSZ.out] at hb h1; obtain ⟨a1, p1, rfl, -, -⟩ := RowAt.slice h2; have HB := hid (And.intro hb (And.intro h1 h2)); clear hb h1 h2)
    | (go_at_call 96; refine (HR.out _ _ HB.out.1 HB.out.2.1 HB.out.2.2).mono ?_; rintro e w2 ⟨am, n, cm, rfl, hr2, hb2, hp2⟩; have HB2 := hid (And.intro hb2 (And.intro hp2 hr2)); clear hb2 hp2 hr2))
  have hlt2 : w.heap.size + 2 < w2.heap.size := lt_of_block HB2.out.2.2
  have hb3 : Below (w.heap.size + 2) ((w.alloc (.cells #[.int .u32 0, .int .u64 0, .int .u64 0, .slice none 0 0] 91)).alloc (.cells #[.nilIface] 55)) w2 := HB.out.1.trans HB2.out.1
  have k0 : (w2.alloc (.cells #[.int .u32 s, .int .u64 p, .int .u64 q, .slice (some am) n cm] 91)).heap[w.heap.size]? = some (.cells #[.int .u32 0, .int .u64 0, .int .u64 0, .slice none 0 0] 91 (0, 0)) := (Below.heap_alloc _ _ _ (by omega)).trans ((hb3.block _ (by omega)).trans ((Below.heap_alloc _ _ _ (by simp)).trans (heap_alloc_new w _)))
  have k1 : (w2.alloc (.cells #[.int .u32 s, .int .u64 p, .int .u64 q, .slice (some am) n cm] 91)).heap[w.heap.size + 1]? = some (.cells #[.nilIface] 55 (0, 0)) := (Below.heap_alloc _ _ _ (by omega)).trans ((hb3.block _ (by omega)).trans (new_at (by simp)))
  have k2 : RdAt (w2.alloc (.cells #[.int .u32 s, .int .u64 p, .int .u64 q, .slice (some am) n cm] 91)) (w.heap.size + 2) (.slice a1 (l.take (l.length - 4)).length p1) (l.length - 4) := (Below.heap_alloc _ _ _ hlt2).trans HB2.out.2.2
  have k3 : (w2.alloc (.cells #[.int .u32 s, .int .u64 p, .int .u64 q, .slice (some am) n cm] 91)).heap[w2.heap.size]? = some (.cells #[.int .u32 s, .int .u64 p, .int .u64 q, .slice (some am) n cm] 91 (0, 0)) := heap_alloc_new w2 _
  have hb4 : Below w.heap.size w (w2.alloc (.cells #[.int .u32 s, .int .u64 p, .int .u64 q, .slice (some am) n cm] 91)) := ((((Below.refl _ w).alloc (Nat.le_refl _) _).alloc (by simp) _).trans (hb3.mono (by omega))).alloc (by omega) _
  have hb5 : Below w.heap.size w w2 := (((Below.refl _ w).alloc (Nat.le_refl _) _).alloc (by simp) _).trans (hb3.mono (by omega))
  have hne : w2.heap.size ≠ w.heap.size := by omega
  have hlen : (l.take (l.length - 4)).length = l.length - 4 := by rw [List.length_take]; omega
  rw [hlen] at k2
  generalize w2.alloc (.cells #[.int .u32 s, .int .u64 p, .int .u64 q, .slice (some am) n cm] 91) = W3 at *
  obtain ⟨x0, x1, x2, x3, xz⟩ := blk_four k0
  obtain ⟨y0, yz⟩ := one_cellD k1
  have z0 := k2.c0
  have z1 := k2.c1
  have z0' : W3.cell? ⟨w.heap.size + 1 + 1, 0, none⟩ = some (.slice a1 (l.length - 4) p1) := z0
  have z1' : W3.cell? ⟨w.heap.size + 1 + 1, 1, none⟩ = some (.int .i64 ((l.length - 4 : Nat) : Int)) := z1
  obtain ⟨u0, u1, u2, u3, -⟩ := blk_four k3
  have HK := hid (And.intro k0 (And.intro k1 (And.intro hb4 hb5)))
  clear k0 k1 k2 k3 hb3 hb4 hb5
  go_quiet ((go_at_call 89; exact Calls.quiet_of_same (fNeed_true _ _ _)))
  go_wp2
  have hp4 := put_four (show (W3.drewN nq).heap[w.heap.size]? = _ from HK.out.1) (.int .u32 s) (.int .u64 p) (.int .u64 q) (.slice (some am) n cm)
  have hq4 := ((but_set _ (w.heap.size + 1) 0 Value.nilIface).block w.heap.size (lt_of_block hp4) (by intro e; injection e with e; omega)).trans hp4
  have he4 := ((((but_set (W3.drewN nq) w.heap.size 0 (.int .u32 s)).trans (but_set _ w.heap.size 1 (.int .u64 p))).trans (but_set _ w.heap.size 2 (.int .u64 q))).trans (but_set _ w.heap.size 3 (.slice (some am) n cm))).block (w.heap.size + 1) (lt_of_block (show (W3.drewN nq).heap[w.heap.size + 1]? = _ from HK.out.2.1)) (by intro e; injection e with e; omega)
  have he5 := one_setD (he4.trans (show (W3.drewN nq).heap[w.heap.size + 1]? = _ from HK.out.2.1)) Value.nilIface
  have hbf : Below w.heap.size w ((((((W3.drewN nq).setCell ⟨w.heap.size, 0, none⟩ (.int .u32 s)).setCell ⟨w.heap.size, 1, none⟩ (.int .u64 p)).setCell ⟨w.heap.size, 2, none⟩ (.int .u64 q)).setCell ⟨w.heap.size, 3, none⟩ (.slice (some am) n cm)).setCell ⟨w.heap.size + 1, 0, none⟩ Value.nilIface) := (bel_four (bel_drewN HK.out.2.2.1 nq) (Nat.le_refl _) _ _ _ _).setCell (by show w.heap.size ≤ w.heap.size + 1; omega) _
  refine leaves_cons (f := 161) (args := #[.pointer (some ⟨w.heap.size + 1, 0, none⟩)]) (by simp) (by simp [go_sem]) ?_
  refine (readD1_idle ⟨w.heap.size + 1, 0, none⟩ _).mono ?_
  rintro e u' w'' ⟨rfl, rfl, rfl⟩
  obtain ⟨g0, g1, g2, g3, -⟩ := blk_four hq4
  obtain ⟨g4, -⟩ := one_cellD he5
  simp [Leaves, settle, results, Tryz.results95, go_sem, g0, g1, g2, g3, g4]
  exact ⟨am, n, cm, ⟨rfl, rfl, rfl⟩, w2, HB2.out.2.1, HK.out.2.2.2, hbf⟩

end Go.Proofs.YtfldcmdhneegmabGreatDoor

/-
  package chain's WALKS: the Reader's Sum.
-/
namespace Go.Proofs.YtfldcmdhneegmabGreatDoor
open Go.RowKit Go.Lib

/-- Four bytes, j of which are read. -/
def fourOf (x : Nat → UInt8) (j : Nat) : Array Value := #[.int .u8 (if 0 < j then ((x 0).toNat : Int) else 0), .int .u8 (if 1 < j then ((x 1).toNat : Int) else 0), .int .u8 (if 2 < j then ((x 2).toNat : Int) else 0), .int .u8 (if 3 < j then ((x 3).toNat : Int) else 0)]
theorem four_put {w : World} {b : Nat} {t : TypeId} {x : Nat → UInt8} {j : Nat} (hj : j < 4) (h : w.heap[b]? = some (.cells (fourOf x j) t (0, 0))) : (w.setCell ⟨b, j, none⟩ (.int .u8 (x j).toNat)).heap[b]? = some (.cells (fourOf x (j + 1)) t (0, 0)) ∧ w.cell? ⟨b, j, none⟩ = some (.int .u8 0) ∧ w.frozen? ⟨b, j, none⟩ = false := by
  rcases (by omega : j = 0 ∨ j = 1 ∨ j = 2 ∨ j = 3) with rfl | rfl | rfl | rfl
  · exact ⟨(set_four h _).1, (blk_four h).1, (blk_four h).2.2.2.2 0⟩
  · exact ⟨(set_four h _).2.1, (blk_four h).2.1, (blk_four h).2.2.2.2 1⟩
  · exact ⟨(set_four h _).2.2.1, (blk_four h).2.2.1, (blk_four h).2.2.2.2 2⟩
  · exact ⟨(set_four h _).2.2.2, (blk_four h).2.2.2.1, (blk_four h).2.2.2.2 3⟩
theorem four_row {w : World} {b : Nat} {t : TypeId} {x : Nat → UInt8} (h : w.heap[b]? = some (.cells (fourOf x 4) t (0, 0))) : BytesAt (fun i => i = b) w (.slice (some ⟨b, 0, none⟩) 4 4) [x 0, x 1, x 2, x 3] := by
  obtain ⟨c0, c1, c2, c3, -⟩ := blk_four h
  refine ⟨rfl, Or.inr ⟨b, 0, 4, rfl, rfl, lt_of_block h, Nat.le_refl _, by unfold maxLen; omega, fun j u hj => ?_⟩⟩
  match j, hj with
  | 0, hj => simp [byteCells] at hj; subst hj; exact c0
  | 1, hj => simp [byteCells] at hj; subst hj; exact c1
  | 2, hj => simp [byteCells] at hj; subst hj; exact c2
  | 3, hj => simp [byteCells] at hj; subst hj; exact c3
  | j + 4, hj => simp [byteCells] at hj
theorem take_four {l : List UInt8} {k : Nat} (h : k + 4 ≤ l.length) : [l.getD (k + 0) 0, l.getD (k + 1) 0, l.getD (k + 2) 0, l.getD (k + 3) 0] = (l.drop k).take 4 := by
  have h0 : l.drop k = l[k] :: l[k + 1] :: l[k + 2] :: l[k + 3] :: l.drop (k + 4) := by
    rw [List.drop_eq_getElem_cons (i := k) (by omega), List.drop_eq_getElem_cons (i := k + 1) (by omega), List.drop_eq_getElem_cons (i := k + 1 + 1) (by omega), List.drop_eq_getElem_cons (i := k + 1 + 1 + 1) (by omega)]
  rw [h0]
  have e : ∀ i (hi : k + i < l.length), l.getD (k + i) 0 = l[k + i] := fun i hi => by simp [hi]
  rw [e 0 (by omega), e 1 (by omega), e 2 (by omega), e 3 (by omega)]
  rfl

theorem But.setNewD {b g : Nat} {w w' : World} (h : But b w w') (hg : w.heap.size ≤ g) (i : Nat) (u : Value) : But b w (w'.setCell ⟨g, i, none⟩ u) := by
  have hb := but_set w' g i u
  exact ⟨hb.os.trans h.os, hb.tape.trans h.tape, hb.output.trans h.output, Nat.le_trans h.size hb.size, fun k hk hne => (hb.block k (Nat.lt_of_lt_of_le hk h.size) (by intro e; injection e with e; omega)).trans (h.block k hk hne)⟩
/-- What the Reader's Sum answers, from place k on. -/
def RSumEnd (l : List UInt8) (k : Nat) (v : Value) (b : Nat) (w : World) (e : Ending) (w' : World) : Prop :=
  But b w w' ∧
    if k + 4 ≤ l.length then e = .returned (.int .u32 (Fr.val ((l.drop k).take 4))) ∧ RdAt w' b v (k + 4) else BytesPanic e
theorem rsumEnd_no {l : List UInt8} {k : Nat} {v : Value} {b : Nat} {w w' : World} {e : Ending} (h : ¬ k + 4 ≤ l.length) (hb : But b w w') (he : BytesPanic e) : RSumEnd l k v b w e w' := by
  unfold RSumEnd
  rw [if_neg h]
  exact ⟨hb, he⟩

set_option maxHeartbeats 2000000 in
set_option maxRecDepth 1000000 in
theorem frSum_any (F : Nat → Prop) (v : Value) (l : List UInt8) (b k : Nat) (w : World) (hr : RdAt w b v k) (hv : BytesAt F w v l) (hF : ¬ F b) (hFw : ¬ F w.heap.size) (hk : k ≤ l.length) (hl : l.length ≤ 1000000) :
    Calls Tryz.prog 162 #[.pointer (some ⟨b, 0, none⟩)] w (RSumEnd l k v b w) := by
  have hbl : b < w.heap.size := lt_of_block hr
  have HR := hid hr
  have HV := hid hv
  clear hr hv
  have hst : (w.alloc (.cells #[.int .u8 0, .int .u8 0, .int .u8 0, .int .u8 0] 304)).heap[w.heap.size]? = some (.cells (fourOf (fun i => l.getD (k + i) 0) 0) 304 (0, 0)) := heap_alloc_new w _
  have HST := hid hst
  clear hst
  go_enter Tryz.func162, Tryz.ntmps162
  go_wp2
  go_loopw [5] (fun i wr => ∃ j : Nat, j ≤ 4 ∧ k + j ≤ l.length ∧ i = .int .i64 j ∧ Hid (wr.heap[w.heap.size]? = some (.cells (fourOf (fun i => l.getD (k + i) 0) j) 304 (0, 0)) ∧ RdAt wr b v (k + j) ∧ BytesAt F wr v l ∧ But b w wr)) (fun i _ => 4 - (intOf i).toNat)
  case atStart => exact ⟨0, by omega, by omega, rfl, HST.out, (Below.heap_alloc _ _ _ hbl).trans HR.out, HV.out.below ((Below.refl _ _).alloc (Nat.le_refl _) _), But.ofBelow ((Below.refl _ _).alloc (Nat.le_refl _) _)⟩
  case round =>
    obtain ⟨j, hj4, hjl, rfl, hr⟩ := hrel
    by_cases hj : j < 4
    · have hj' : (j : Int) < 4 := by omega
      have hj0 : (0 : Int) ≤ (j : Int) := by omega
      have HN := hid (fNext_any F v l b (k + j) wr hr.out.2.1 hr.out.2.2.1 hjl hl)
      by_cases hlt : k + j < l.length
      · have hg : l.getD (k + j) 0 = l[k + j] := by simp [hlt]
        have HG := hid hg
        clear hg
        go_wp2_with (go_at_call 191; refine HN.out.mono ?_; rintro e w1 ⟨hb1, he⟩; rw [dif_pos hlt] at he; obtain ⟨rfl, hr1⟩ := he; have hk1 := (hb1.block w.heap.size (lt_of_block hr.out.1) (by intro e; injection e with e; omega)).trans hr.out.1; obtain ⟨hp1, hc1, hz1⟩ := four_put hj hk1; rw [HG.out] at hp1; have H1 := hid (And.intro hp1 (And.intro hr1 hb1)); clear hp1 hr1 hb1 hk1)
        refine ⟨⟨j + 1, by omega, by omega, by go_num, H1.out.1, ?_, ?_, ?_⟩, by simp [intOf]; omega⟩
        · exact ((but_set w1 w.heap.size j _).block b (lt_of_block H1.out.2.1) (by intro e; injection e with e; omega)).trans H1.out.2.1
        · exact (hr.out.2.2.1.but H1.out.2.2 hF).but (but_set w1 w.heap.size j _) hFw
        · exact But.setNewD (hr.out.2.2.2.trans H1.out.2.2) (Nat.le_refl _) j _
      · have hno : ¬ k + 4 ≤ l.length := by omega
        go_wp2_with (go_at_call 191; refine HN.out.mono ?_; rintro e w1 ⟨hb1, he⟩; rw [dif_neg hlt] at he; obtain ⟨n1, s1, rfl⟩ := he; have H1 := hid hb1; clear hb1)
        exact ⟨rfl, rsumEnd_no hno (hr.out.2.2.2.trans H1.out) ⟨_, _, rfl⟩⟩
    · obtain rfl : j = 4 := by omega
      go_wp2_with (go_at_call 150; refine (fSumIn_any _ _ _ _ (four_row hr.out.1)).mono ?_; rintro e w1 ⟨rfl, hw⟩; have hw' := hw.symm; subst hw')
      go_ret
      unfold RSumEnd
      rw [if_pos hjl, ← take_four hjl]
      exact ⟨hr.out.2.2.2, rfl, hr.out.2.1⟩

/-- What readDelta makes of the bytes (its kind in front of them). -/
def DlEnd (F : Nat → Prop) (l : List UInt8) (v : Value) (b : Nat) (w : World) (e : Ending) (w' : World) : Prop :=
  But b w w' ∧
    match Fr.inside (l.drop 1) with
    | some (s, p, q, m) => ∃ am n cm, e = .returned (dval (Fr.val s) p q (.slice (some am) n cm)) ∧ RdAt w' b v l.length ∧ BytesAt F w' (.slice (some am) n cm) m
    | none => BytesPanic e

theorem dlEnd_no {F : Nat → Prop} {l : List UInt8} {v : Value} {b : Nat} {w w' : World} {e : Ending} (h : Fr.inside (l.drop 1) = none) (hb : But b w w') (he : BytesPanic e) : DlEnd F l v b w e w' := by
  unfold DlEnd
  rw [h]
  exact ⟨hb, he⟩
theorem BytesAt.isSlice {F : Nat → Prop} {w : World} {v : Value} {l : List UInt8} (h : BytesAt F w v l) (hn : v ≠ .slice none 0 0) : ∃ a n c, v = .slice (some a) n c := by
  rcases h.2 with ⟨he, _⟩ | ⟨b, o, cap, he, _⟩
  · exact absurd he hn
  · exact ⟨_, _, _, he⟩
theorem drop_suffix {l x r : List UInt8} {k : Nat} (h : l.drop k = x ++ r) : l.drop (l.length - r.length) = r ∧ r.length ≤ l.length := by
  have h1 := congrArg List.length h
  rw [List.length_drop, List.length_append] at h1
  refine ⟨?_, by omega⟩
  have h2 : l = (l.take k ++ x) ++ r := by rw [List.append_assoc, ← h, List.take_append_drop]
  have h3 : l.length - r.length = (l.take k ++ x).length := by
    have := congrArg List.length h2
    rw [List.length_append] at this
    omega
  have h4 : ((l.take k ++ x) ++ r).drop (l.take k ++ x).length = r := List.drop_left
  rw [← h2, ← h3] at h4
  exact h4

/-- What readDelta sees: its reader, its bytes, its two blocks. -/
structure DlCtx (F : Nat → Prop) (v : Value) (l : List UInt8) (b : Nat) (w W : World) (k : Nat) (x y z u : Value) : Prop where
  rd : RdAt W b v k
  row : BytesAt F W v l
  but : But b w W
  out : W.heap[w.heap.size]? = some (.cells #[.int .u32 0, .int .u64 0, .int .u64 0, .slice none 0 0] 91 (0, 0))
  d : W.heap[w.heap.size + 1]? = some (.cells #[x, y, z, u] 91 (0, 0))
theorem DlCtx.on {F : Nat → Prop} {v : Value} {l : List UInt8} {b : Nat} {w W W' : World} {k k' : Nat} {x y z u : Value} (h : DlCtx F v l b w W k x y z u) (hF : ¬ F b) (hbl : b < w.heap.size) (hb : But b W W') (hr : RdAt W' b v k') : DlCtx F v l b w W' k' x y z u :=
  ⟨hr, h.row.but hb hF, h.but.trans hb, (hb.block _ (lt_of_block h.out) (by intro e; injection e with e; omega)).trans h.out, (hb.block _ (lt_of_block h.d) (by intro e; injection e with e; omega)).trans h.d⟩
theorem DlCtx.put {F : Nat → Prop} {v : Value} {l : List UInt8} {b : Nat} {w W : World} {k : Nat} {x y z u x' y' z' u' : Value} (h : DlCtx F v l b w W k x y z u) (hF1 : ¬ F (w.heap.size + 1)) (hbl : b < w.heap.size) (i : Nat) (n : Value) (hd : (W.setCell ⟨w.heap.size + 1, i, none⟩ n).heap[w.heap.size + 1]? = some (.cells #[x', y', z', u'] 91 (0, 0))) : DlCtx F v l b w (W.setCell ⟨w.heap.size + 1, i, none⟩ n) k x' y' z' u' :=
  ⟨((but_set W (w.heap.size + 1) i n).block b (lt_of_block h.rd) (by intro e; injection e with e; omega)).trans h.rd, h.row.but (but_set W (w.heap.size + 1) i n) hF1, But.setNewD h.but (by omega) i n, ((but_set W (w.heap.size + 1) i n).block _ (lt_of_block h.out) (by intro e; injection e with e; omega)).trans h.out, hd⟩

set_option maxHeartbeats 2000000 in
set_option maxRecDepth 1000000 in
theorem readDelta_any (F : Nat → Prop) (v : Value) (l : List UInt8) (b : Nat) (w : World) (hr : RdAt w b v 1) (hv : BytesAt F w v l) (hF : ∀ i, F i → i < b) (h1 : 1 ≤ l.length) (hl : l.length ≤ 1000000) :
    Calls Tryz.prog 96 #[.pointer (some ⟨b, 0, none⟩)] w (DlEnd F l v b w) := by
  have hbl : b < w.heap.size := lt_of_block hr
  have hFb : ¬ F b := fun h => Nat.lt_irrefl _ (hF b h)
  have hFn : ∀ i, b ≤ i → ¬ F i := fun i hi h => by have := hF i h; omega
  have hbel : Below w.heap.size w ((w.alloc (.cells #[.int .u32 0, .int .u64 0, .int .u64 0, .slice none 0 0] 91)).alloc (.cells #[.int .u32 0, .int .u64 0, .int .u64 0, .slice none 0 0] 91)) := ((Below.refl _ _).alloc (Nat.le_refl _) _).alloc (by simp) _
  have hC0 : DlCtx F v l b w ((w.alloc (.cells #[.int .u32 0, .int .u64 0, .int .u64 0, .slice none 0 0] 91)).alloc (.cells #[.int .u32 0, .int .u64 0, .int .u64 0, .slice none 0 0] 91)) 1 (.int .u32 0) (.int .u64 0) (.int .u64 0) (.slice none 0 0) :=
    ⟨(hbel.block b hbl).trans hr, hv.below hbel, But.ofBelow hbel, (Below.heap_alloc _ _ _ (by simp)).trans (heap_alloc_new w _), new_at (by simp)⟩
  have hs2 : ((w.alloc (.cells #[.int .u32 0, .int .u64 0, .int .u64 0, .slice none 0 0] 91)).alloc (.cells #[.int .u32 0, .int .u64 0, .int .u64 0, .slice none 0 0] 91)).heap.size = w.heap.size + 2 := by simp
  have HSum := hid (frSum_any F v l b 1 _ hC0.rd hC0.row hFb (by rw [hs2]; exact hFn _ (by omega)) h1 hl)
  have HC0 := hid hC0
  clear hr hv hC0 hbel hs2
  obtain ⟨S1, hS1⟩ : ∃ S1, Fr.val ((l.drop 1).take 4) = S1 := ⟨_, rfl⟩
  have HS1 := hid hS1
  clear hS1
  by_cases h5 : 1 + 4 ≤ l.length
  · have hin : Fr.inside (l.drop 1) = match Fr.rd (l.drop 5) with
        | none => none
        | some (p, r) =>
          match Fr.rd r with
          | none => none
          | some (q, r') => some ((l.drop 1).take 4, p, q, r') := by
      unfold Fr.inside
      rw [if_neg (by rw [List.length_drop]; omega), List.drop_drop]
      rfl
    cases hx : Fr.rd (l.drop 5) with
    | none =>
      rw [hx] at hin
      have HX := hid (And.intro hx hin)
      clear hx hin
      go_enter Tryz.func96, Tryz.ntmps96
      go_wp2_with (first
        | (go_at_call 162; refine HSum.out.mono ?_; rintro e w1 ⟨hb1, he⟩; rw [if_pos h5, HS1.out] at he; obtain ⟨rfl, hr1⟩ := he; have hc1 := HC0.out.on hFb hbl hb1 hr1; obtain ⟨x0, x1, x2, x3, xz⟩ := blk_four hc1.d; have H1 := hid (hc1.put (hFn _ (by omega)) hbl 0 (.int .u32 S1) (set_four hc1.d _).1); clear hb1 hr1 hc1)
        | (go_at_call 156; refine (fNumber_any F v l b 5 _ H1.out.rd H1.out.row hFb (by omega) hl).mono ?_; rintro e w2 ⟨hb2, he⟩; rw [HX.out.1] at he; obtain ⟨n2, s2, rfl⟩ := he; have H2 := hid (H1.out.but.trans hb2); clear hb2))
      exact ⟨rfl, dlEnd_no HX.out.2 H2.out ⟨_, _, rfl⟩⟩
    | some pr =>
      obtain ⟨p, r⟩ := pr
      obtain ⟨hb5, hp64⟩ := Fr.rd_back hx
      obtain ⟨hdr, hrl⟩ := drop_suffix hb5
      rw [hx] at hin
      simp only [] at hin
      cases hy : Fr.rd r with
      | none =>
        rw [hy] at hin
        have HX := hid (And.intro hx (And.intro hy (And.intro hin hdr)))
        clear hx hin hy hdr
        go_enter Tryz.func96, Tryz.ntmps96
        go_wp2_with (first
          | (go_at_call 162; refine HSum.out.mono ?_; rintro e w1 ⟨hb1, he⟩; rw [if_pos h5, HS1.out] at he; obtain ⟨rfl, hr1⟩ := he; have hc1 := HC0.out.on hFb hbl hb1 hr1; obtain ⟨x0, x1, x2, x3, xz⟩ := blk_four hc1.d; have H1 := hid (hc1.put (hFn _ (by omega)) hbl 0 (.int .u32 S1) (set_four hc1.d _).1); clear hb1 hr1 hc1)
          | (go_at_call 156; refine (fNumber_any F v l b 5 _ H1.out.rd H1.out.row hFb (by omega) hl).mono ?_; rintro e w2 ⟨hb2, he⟩; rw [HX.out.1] at he; obtain ⟨rfl, hr2⟩ := he; have hc2 := H1.out.on hFb hbl hb2 hr2; obtain ⟨y0, y1, y2, y3, yz⟩ := blk_four hc2.d; have H2 := hid (hc2.put (hFn _ (by omega)) hbl 1 (.int .u64 p) (set_four hc2.d _).2.1); clear hb2 hr2 hc2 H1)
          | (go_at_call 156; refine (fNumber_any F v l b _ _ H2.out.rd H2.out.row hFb (by omega) hl).mono ?_; rintro e w3 ⟨hb3, he⟩; rw [HX.out.2.2.2, HX.out.2.1] at he; obtain ⟨n3, s3, rfl⟩ := he; have H3 := hid (H2.out.but.trans hb3); clear hb3))
        exact ⟨rfl, dlEnd_no HX.out.2.2.1 H3.out ⟨_, _, rfl⟩⟩
      | some qr =>
        obtain ⟨q, r'⟩ := qr
        obtain ⟨hbr, hq64⟩ := Fr.rd_back hy
        obtain ⟨hdr', hrl'⟩ := drop_suffix (hdr.trans hbr)
        rw [hy] at hin
        simp only [] at hin
        have HX := hid (And.intro hx (And.intro hy (And.intro hin (And.intro hdr hdr'))))
        clear hx hin hy hdr hdr'
        go_enter Tryz.func96, Tryz.ntmps96
        go_wp2_with (first
          | (go_at_call 162; refine HSum.out.mono ?_; rintro e w1 ⟨hb1, he⟩; rw [if_pos h5, HS1.out] at he; obtain ⟨rfl, hr1⟩ := he; have hc1 := HC0.out.on hFb hbl hb1 hr1; obtain ⟨x0, x1, x2, x3, xz⟩ := blk_four hc1.d; have H1 := hid (hc1.put (hFn _ (by omega)) hbl 0 (.int .u32 S1) (set_four hc1.d _).1); clear hb1 hr1 hc1)
          | (go_at_call 156; refine (fNumber_any F v l b 5 _ H1.out.rd H1.out.row hFb (by omega) hl).mono ?_; rintro e w2 ⟨hb2, he⟩; rw [HX.out.1] at he; obtain ⟨rfl, hr2⟩ := he; have hc2 := H1.out.on hFb hbl hb2 hr2; obtain ⟨y0, y1, y2, y3, yz⟩ := blk_four hc2.d; have H2 := hid (hc2.put (hFn _ (by omega)) hbl 1 (.int .u64 p) (set_four hc2.d _).2.1); clear hb2 hr2 hc2 H1)
          | (go_at_call 156; refine (fNumber_any F v l b _ _ H2.out.rd H2.out.row hFb (by omega) hl).mono ?_; rintro e w3 ⟨hb3, he⟩; rw [HX.out.2.2.2.1, HX.out.2.1] at he; obtain ⟨rfl, hr3⟩ := he; have hc3 := H2.out.on hFb hbl hb3 hr3; obtain ⟨z0, z1, z2, z3, zz⟩ := blk_four hc3.d; have H3 := hid (hc3.put (hFn _ (by omega)) hbl 2 (.int .u64 q) (set_four hc3.d _).2.2.1); clear hb3 hr3 hc3 H2)
          | (go_at_call 80; refine (fRest_any F v l b _ _ H3.out.rd H3.out.row (by omega) (by omega)).mono ?_; rintro e w4 ⟨r4, rfl, hn4, hv4, hr4, hb4⟩; have hv5 := hv4 hFb; obtain ⟨a4, n4, c4, rfl⟩ := hv5.isSlice hn4; have hc4 := H3.out.on hFb hbl hb4 hr4; obtain ⟨u0, u1, u2, u3, uz⟩ := blk_four hc4.d; have hc5 := hc4.put (hFn _ (by omega)) hbl 3 (.slice (some a4) n4 c4) (set_four hc4.d _).2.2.2; obtain ⟨t0, t1, t2, t3, tz⟩ := blk_four hc5.d; obtain ⟨o0, o1, o2, o3, oz⟩ := blk_four hc5.out; have H4 := hid (And.intro hc5 (hv5.but (but_set w4 (w.heap.size + 1) 3 (.slice (some a4) n4 c4)) (hFn _ (by omega)))); clear hn4 hv4 hr4 hb4 hv5 hc4 hc5 H3))
        have hp4 := put_four H4.out.1.out (.int .u32 S1) (.int .u64 p) (.int .u64 q) (.slice (some a4) n4 c4)
        obtain ⟨g0, g1, g2, g3, -⟩ := blk_four hp4
        have hbt := (((but_set (w4.setCell ⟨w.heap.size + 1, 3, none⟩ (.slice (some a4) n4 c4)) w.heap.size 0 (.int .u32 S1)).trans (but_set _ w.heap.size 1 (.int .u64 p))).trans (but_set _ w.heap.size 2 (.int .u64 q))).trans (but_set _ w.heap.size 3 (.slice (some a4) n4 c4))
        have hbw := But.setNewD (But.setNewD (But.setNewD (But.setNewD H4.out.1.but (Nat.le_refl _) 0 (.int .u32 S1)) (Nat.le_refl _) 1 (.int .u64 p)) (Nat.le_refl _) 2 (.int .u64 q)) (Nat.le_refl _) 3 (.slice (some a4) n4 c4)
        refine bodyPost_ret (v := .agg #[.int .u32 S1, .int .u64 p, .int .u64 q, .slice (some a4) n4 c4]) (by simp [results, Tryz.results96, go_sem, g0, g1, g2, g3]) rfl ?_
        unfold DlEnd
        rw [HX.out.2.2.1]
        have hrow := H4.out.2
        rw [HX.out.2.2.2.2] at hrow
        refine ⟨hbw, a4, n4, c4, ?_, (hbt.block b (lt_of_block H4.out.1.rd) (by intro e; injection e with e; omega)).trans H4.out.1.rd, hrow.but hbt (hFn _ (by omega))⟩
        rw [HS1.out]
        rfl
  · have hno : Fr.inside (l.drop 1) = none := by
      unfold Fr.inside
      rw [if_pos (by rw [List.length_drop]; omega)]
    have HX := hid hno
    clear hno
    go_enter Tryz.func96, Tryz.ntmps96
    go_wp2_with (go_at_call 162; refine HSum.out.mono ?_; rintro e w1 ⟨hb1, he⟩; rw [if_neg h5] at he; obtain ⟨n1, s1, rfl⟩ := he; have H1 := hid (HC0.out.but.trans hb1); clear hb1)
    exact ⟨rfl, dlEnd_no HX.out H1.out ⟨_, _, rfl⟩⟩

/-- What opened answers. -/
def OpenedEnd (F : Nat → Prop) (l : List UInt8) (w : World) (e : Ending) (w' : World) : Prop :=
  Below w.heap.size w w' ∧
    match Fr.parts l with
    | some (s, p, q, m) => ∃ am n cm, e = .returned (.tuple #[dval (Fr.val s) p q (.slice (some am) n cm), .nilIface]) ∧ BytesAt F w' (.slice (some am) n cm) m
    | none => ∃ (n : Int) (s : ByteArray), e = .returned (.tuple #[dval 0 0 0 (.slice none 0 0), .iface 101 (.agg #[.int .i64 n, .string s])])
theorem take_kind {l c : List UInt8} {kind : UInt8} (h : Fr.sound l kind = some c) : (l.take (l.length - 4)).drop 1 = c := by
  unfold Fr.sound at h
  split at h
  · exact Option.some.inj h
  · cases h
theorem BytesAt.bel {F : Nat → Prop} {w W W' : World} {v : Value} {l : List UInt8} (h : BytesAt F W v l) (hF : ∀ i, F i → i < w.heap.size) (h1 : Below w.heap.size w W) (h2 : Below w.heap.size w W') : BytesAt F W' v l := by
  obtain ⟨hl, hr⟩ := h
  refine ⟨hl, ?_⟩
  rcases hr with h0 | ⟨b, o, cap, he, hFb, hb, hn, hc, r⟩
  · exact Or.inl h0
  · have hbw := hF b hFb
    refine Or.inr ⟨b, o, cap, he, hFb, Nat.lt_of_lt_of_le hbw h2.size, hn, hc, fun j u hj => ?_⟩
    rw [World.cell?_of_block (a := ⟨b, o + j, none⟩) ((h2.block b hbw).trans (h1.block b hbw).symm)]
    exact r j u hj

set_option maxHeartbeats 2000000 in
set_option maxRecDepth 1000000 in
theorem readDD_any (F : Nat → Prop) (v : Value) (l : List UInt8) (w : World) (hv : BytesAt F w v l) (hF : ∀ i, F i → i < w.heap.size) (hl : l.length ≤ 1000000) :
    Calls Tryz.prog 95 #[.int .u8 68, v, .func (.func 96) #[] #[]] w (OpenedEnd F l w) := by
  have e68 : (((68 : UInt8).toNat : Nat) : Int) = 68 := by decide
  cases hs : Fr.sound l 68 with
  | none =>
    have hp : Fr.parts l = none := by rw [Fr.parts_inside, hs]
    have h := readD_unsound F v l 68 (.func (.func 96) #[] #[]) w hv hl hs
    rw [e68] at h
    refine h.mono ?_
    rintro e w' ⟨n, s, rfl, hb⟩
    unfold OpenedEnd
    rw [hp]
    exact ⟨hb, n, s, rfl⟩
  | some c =>
    have h5 := sound_five hs
    have hc := take_kind hs
    have hlt : (l.take (l.length - 4)).length = l.length - 4 := by rw [List.length_take]; omega
    have hp : Fr.parts l = Fr.inside c := by rw [Fr.parts_inside, hs]
    cases hi : Fr.inside c with
    | none =>
      have h := readD_panics F v l c 68 w hv hl hs (fun W v' hb hr hv' => (readDelta_any F v' _ (w.heap.size + 2) W hr hv' (fun i h => by have := hF i h; omega) (by omega) (by omega)).mono fun e w' he => by
        obtain ⟨h1, h2⟩ := he
        rw [hc, hi] at h2
        exact ⟨h2, h1.belowB (Nat.le_refl _) (Nat.le_of_lt (lt_of_block hr))⟩)
      rw [e68] at h
      refine h.mono ?_
      rintro e w' ⟨n, s, rfl, hb⟩
      unfold OpenedEnd
      rw [hp, hi]
      exact ⟨hb, n, s, rfl⟩
    | some x =>
      obtain ⟨s, p, q, m⟩ := x
      have h := readD_ok F v l c 68 w hv hl hs (Fr.val s) p q (fun vm W => BytesAt F W vm m) (fun W v' hb hr hv' => (readDelta_any F v' _ (w.heap.size + 2) W hr hv' (fun i h => by have := hF i h; omega) (by omega) (by omega)).mono fun e w' he => by
        obtain ⟨h1, h2⟩ := he
        rw [hc, hi] at h2
        obtain ⟨am, n, cm, h3, h4, h5⟩ := h2
        rw [hlt] at h4
        exact ⟨am, n, cm, h3, h4, h1.belowB (Nat.le_refl _) (Nat.le_of_lt (lt_of_block hr)), h5⟩)
      rw [e68] at h
      refine h.mono ?_
      rintro e w' ⟨am, n, cm, w2, rfl, h1, h2, h3⟩
      unfold OpenedEnd
      rw [hp, hi]
      exact ⟨h3, am, n, cm, rfl, h1.bel hF h2 h3⟩

end Go.Proofs.YtfldcmdhneegmabGreatDoor

/-
  package chain's WALKS: opened.
-/
namespace Go.Proofs.YtfldcmdhneegmabGreatDoor
open Go.RowKit Go.Lib

theorem openedEnd_none {F : Nat → Prop} {l : List UInt8} {w w' : World} {n : Int} {s : ByteArray} (h : Fr.parts l = none) (hb : Below w.heap.size w w') : OpenedEnd F l w (.returned (.tuple #[dval 0 0 0 (.slice none 0 0), .iface 101 (.agg #[.int .i64 n, .string s])])) w' := by
  unfold OpenedEnd
  rw [h]
  exact ⟨hb, n, s, rfl⟩
theorem openedEnd_some {F : Nat → Prop} {l : List UInt8} {w w' : World} {s m : List UInt8} {p q : Nat} {am : Addr} {n cm : Nat} (h : Fr.parts l = some (s, p, q, m)) (hb : Below w.heap.size w w') (hv : BytesAt F w' (.slice (some am) n cm) m) : OpenedEnd F l w (.returned (.tuple #[dval (Fr.val s) p q (.slice (some am) n cm), .nilIface])) w' := by
  unfold OpenedEnd
  rw [h]
  exact ⟨hb, am, n, cm, rfl, hv⟩

set_option maxHeartbeats 2000000 in
set_option maxRecDepth 1000000 in
theorem opened_any (F : Nat → Prop) (v : Value) (l : List UInt8) (w : World) (hv : BytesAt F w v l) (hF : ∀ i, F i → i < w.heap.size) (hl : l.length ≤ 1000000) :
    Calls Tryz.prog 46 #[v] w (OpenedEnd F l w) := by
  have hsz : ∀ o, (w.alloc o).heap.size = w.heap.size + 1 := fun o => by simp
  have HSZ := hid hsz
  have HC := hid (fun o => readDD_any F v l (w.alloc o) (hv.below ((Below.refl _ _).alloc (Nat.le_refl _) _)) (fun i h => by have := hF i h; simp; omega) hl)
  clear hv hsz
  cases hp : Fr.parts l with
  | none =>
    have HX := hid hp
    clear hp
    go_enter Tryz.func46, Tryz.ntmps46
    go_wp2_with (go_at_call 95; refine (HC.out _).mono ?_; rintro e w1 ⟨hb, he⟩; rw [HX.out] at he; obtain ⟨n1, s1, rfl⟩ := he; rw [HSZ.out] at hb; have hk := (hb.block w.heap.size (by omega)).trans (heap_alloc_new w _); obtain ⟨c0, c1, c2, c3, cz⟩ := blk_four hk; have HB := hid (And.intro hk (((Below.refl _ w).alloc (Nat.le_refl _) _).trans (hb.mono (by omega)))); clear hb hk; unfold dval)
    have hp4 := put_four HB.out.1 (.int .u32 0) (.int .u64 0) (.int .u64 0) (.slice none 0 0)
    obtain ⟨g0, g1, g2, g3, -⟩ := blk_four hp4
    refine bodyPost_ret (v := .tuple #[.agg #[.int .u32 0, .int .u64 0, .int .u64 0, .slice none 0 0], .iface 101 (.agg #[.int .i64 n1, .string s1])]) (by simp [results, Tryz.results46, go_sem, g0, g1, g2, g3]) rfl ?_
    exact openedEnd_none HX.out (bel_four HB.out.2 (Nat.le_refl _) _ _ _ _)
  | some x =>
    obtain ⟨s, p, q, m⟩ := x
    obtain ⟨S1, hS1⟩ : ∃ S1, Fr.val s = S1 := ⟨_, rfl⟩
    have HS1 := hid hS1
    have HX := hid hp
    clear hp hS1
    go_enter Tryz.func46, Tryz.ntmps46
    go_wp2_with (go_at_call 95; refine (HC.out _).mono ?_; rintro e w1 ⟨hb, he⟩; rw [HX.out] at he; obtain ⟨am, n, cm, rfl, hm⟩ := he; rw [HSZ.out] at hb; rw [HS1.out]; have hk := (hb.block w.heap.size (by omega)).trans (heap_alloc_new w _); obtain ⟨c0, c1, c2, c3, cz⟩ := blk_four hk; have HB := hid (And.intro hk (And.intro (((Below.refl _ w).alloc (Nat.le_refl _) _).trans (hb.mono (by omega))) hm)); clear hb hk hm; unfold dval)
    have hp4 := put_four HB.out.1 (.int .u32 S1) (.int .u64 p) (.int .u64 q) (.slice (some am) n cm)
    obtain ⟨g0, g1, g2, g3, -⟩ := blk_four hp4
    refine bodyPost_ret (v := .tuple #[.agg #[.int .u32 S1, .int .u64 p, .int .u64 q, .slice (some am) n cm], .nilIface]) (by simp [results, Tryz.results46, go_sem, g0, g1, g2, g3]) rfl ?_
    have hbf := bel_four HB.out.2.1 (Nat.le_refl _) (.int .u32 S1) (.int .u64 p) (.int .u64 q) (.slice (some am) n cm)
    have h := openedEnd_some HX.out hbf (HB.out.2.2.bel hF HB.out.2.1 hbf)
    rw [HS1.out] at h
    exact h

end Go.Proofs.YtfldcmdhneegmabGreatDoor
