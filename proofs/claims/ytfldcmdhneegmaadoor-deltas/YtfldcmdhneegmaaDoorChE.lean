/-
  package chain's WALKS: a delta's frame; Delta.
-/
import Derived.Test.YtfldcmdhneegmaaDoorChCs
import Derived.Test.YtfldcmdhneegmaaDoorChD
namespace Go.Proofs.YtfldcmdhneegmaaDoor
open Go.RowKit Go.Lib

theorem newWriterD_any (w : World) :
    Calls Tryd.prog 62 #[.int .u8 68] w fun e w' => ∃ b, e = .returned (.pointer (some ⟨b, 0, none⟩)) ∧ WrAt w.heap.size w' b [68] ∧ Below w.heap.size w w' := by
  have h := newWriter_any 68 w
  have e : (((68 : UInt8).toNat : Nat) : Int) = 68 := by decide
  rw [e] at h
  exact h
set_option maxHeartbeats 2000000 in
set_option maxRecDepth 1000000 in
theorem dFrame_any (G : Nat → Prop) (s p q : Nat) (am : Addr) (n cm : Nat) (m : List UInt8) (w : World) (hs : s < 4294967296) (hp : p < 18446744073709551616) (hq : q < 18446744073709551616) (hm : BytesAt G w (.slice (some am) n cm) m) (hml : m.length ≤ 1000000) :
    Calls Tryd.prog 45 #[dval s p q (.slice (some am) n cm)] w fun e w' => ∃ v, e = .returned v ∧ w'.ownsRow w.heap.size 5 1 v (Fr.framed (68 :: (Fr.be4 s ++ Fr.num p ++ Fr.num q ++ m))).length (byteCells (Fr.framed (68 :: (Fr.be4 s ++ Fr.num p ++ Fr.num q ++ m)))) ∧ Below w.heap.size w w' := by
  have hp10 := Fr.num_length64 hp
  have hq10 := Fr.num_length64 hq
  have h4 : (Fr.be4 s).length = 4 := rfl
  have HM := hid hm
  have HL := hid (And.intro hp10 (And.intro hq10 h4))
  have hsz : ∀ o, (w.alloc o).heap.size = w.heap.size + 1 := fun o => by simp
  have HSZ := hid hsz
  clear hm hp10 hq10 h4 hsz
  unfold dval
  go_enter Tryd.func45, Tryd.ntmps45
  go_wp2_with (first
    | (go_at_call 62; refine (newWriterD_any _).mono ?_; rintro e w1 ⟨b, rfl, hr, hb⟩; rw [HSZ.out] at hr hb; have H1 := hid (And.intro hr hb); obtain ⟨x0, x1, x2, x3⟩ := box_at hb; clear hr hb)
    | (go_at_call 63; refine (wSum_any _ _ _ s _ H1.out.1 hs (by simp) (by have := H1.out.2.size; rw [HSZ.out] at this; exact this)).mono ?_; rintro e w2 ⟨rfl, hr, hb⟩; have H2 := hid (And.intro hr (H1.out.2.trans hb)); obtain ⟨y0, y1, y2, y3⟩ := box_at (H1.out.2.trans hb); clear hr hb)
    | (go_at_call_of 64 (Value.int IntKind.u64 p); refine (wNumber_any _ _ _ p _ H2.out.1 hp (by have := HL.out.2.2; simp [this]) (by have := H2.out.2.size; rw [HSZ.out] at this; exact this)).mono ?_; rintro e w3 ⟨rfl, hr, hb⟩; have H3 := hid (And.intro hr (H2.out.2.trans hb)); obtain ⟨z0, z1, z2, z3⟩ := box_at (H2.out.2.trans hb); clear hr hb)
    | (go_at_call_of 64 (Value.int IntKind.u64 q); refine (wNumber_any _ _ _ q _ H3.out.1 hq (by have := HL.out; simp; omega) (by have := H3.out.2.size; rw [HSZ.out] at this; exact this)).mono ?_; rintro e w4 ⟨rfl, hr, hb⟩; have H4 := hid (And.intro hr (H3.out.2.trans hb)); obtain ⟨u0, u1, u2, u3⟩ := box_at (H3.out.2.trans hb); clear hr hb)
    | (go_at_call 65; refine (wRest_any G _ _ _ m _ _ H4.out.1 (HM.out.below (((Below.refl _ _).alloc (Nat.le_refl _) _).trans (H4.out.2.mono (by omega)))) (by have := HL.out; simp; omega) (by omega) (by have := H4.out.2.size; rw [HSZ.out] at this; exact this)).mono ?_; rintro e w5 ⟨rfl, hr, hb⟩; have H5 := hid (And.intro hr (H4.out.2.trans hb)); clear hr hb)
    | (go_at_call 66; refine (wFrame_any _ _ _ _ H5.out.1 (by simp) (by have := HL.out; simp; omega)).mono ?_; rintro e w6 ⟨v6, rfl, hr, hb⟩; have H6 := hid (And.intro hr hb); clear hr hb))
  go_ret
  have e1 : (68 : UInt8) :: (Fr.be4 s ++ Fr.num p ++ Fr.num q ++ m) = [68] ++ Fr.be4 s ++ Fr.num p ++ Fr.num q ++ m := by simp
  have hbw : Below w.heap.size w w5 := ((Below.refl _ _).alloc (Nat.le_refl _) _).trans (H5.out.2.mono (by omega))
  refine ⟨_, rfl, ?_, hbw.trans (H6.out.2.mono hbw.size)⟩
  rw [e1]
  exact own_mono H6.out.1 hbw.size

/-- What the program's Delta answers. -/
def PDeltaEnd (a b : List UInt8) (w : World) (e : Ending) (w' : World) : Prop :=
  Below w.heap.size w w' ∧
    if (Fr.sound a 83).isSome = true ∧ (Fr.sound b 83).isSome = true then ∃ v, e = .returned (.tuple #[v, .nilIface]) ∧ w'.ownsRow w.heap.size 5 1 v (Fr.delta a b).length (byteCells (Fr.delta a b))
    else ∃ (n : Int) (s : ByteArray), e = .returned (.tuple #[.slice none 0 0, .iface 80 (.agg #[.int .i64 n, .string s])])
theorem pdelta_no {a b : List UInt8} {w w' : World} {n : Int} {s : ByteArray} (h : ¬ ((Fr.sound a 83).isSome = true ∧ (Fr.sound b 83).isSome = true)) (hb : Below w.heap.size w w') : PDeltaEnd a b w (.returned (.tuple #[.slice none 0 0, .iface 80 (.agg #[.int .i64 n, .string s])])) w' := by
  unfold PDeltaEnd
  rw [if_neg h]
  exact ⟨hb, n, s, rfl⟩

set_option maxHeartbeats 2000000 in
set_option maxRecDepth 1000000 in
theorem cDelta_any (F G : Nat → Prop) (v u : Value) (a b : List UInt8) (w : World) (hv : BytesAt F w v a) (hu : BytesAt G w u b) (ha : a.length ≤ 500000) (hb : b.length ≤ 500000) :
    Calls Tryd.prog 22 #[v, u] w (PDeltaEnd a b w) := by
  have HV := hid hv
  have HU := hid hu
  have HA := hid (fCheckS_any F v a w hv (by omega))
  clear hv hu
  cases h1 : (Fr.sound a 83).isSome with
  | false =>
    have HX := hid h1
    clear h1
    go_enter Tryd.func22, Tryd.ntmps22
    go_wp2_with (go_at_call 43; refine HA.out.mono ?_; rintro e w1 ⟨hb1, -, he⟩; obtain ⟨n1, s1, rfl⟩ := he HX.out; have HB1 := hid hb1; clear hb1 he)
    go_ret2
    exact pdelta_no (by rw [HX.out]; simp) HB1.out
  | true =>
    have H1 := hid h1
    clear h1
    cases h2 : (Fr.sound b 83).isSome with
    | false =>
      have HX := hid h2
      clear h2
      go_enter Tryd.func22, Tryd.ntmps22
      go_wp2_with (first
        | (go_at_call_of 43 v; refine HA.out.mono ?_; rintro e w1 ⟨hb1, he, -⟩; obtain rfl := he H1.out; have HB1 := hid hb1; clear hb1 he)
        | (go_at_call 43; refine (fCheckS_any G u b _ (HU.out.below HB1.out) (by omega)).mono ?_; rintro e w2 ⟨hb2, -, he⟩; obtain ⟨n1, s1, rfl⟩ := he HX.out; have HB2 := hid (HB1.out.trans (hb2.mono HB1.out.size)); clear hb2 he))
      go_ret2
      exact pdelta_no (by rw [HX.out]; simp) HB2.out
    | true =>
      have H2 := hid h2
      clear h2
      have h5a := sound_four H1.out
      have h5b := sound_four H2.out
      obtain ⟨hpa, -⟩ := Fr.cp_le a b
      obtain ⟨hqa, -⟩ := Fr.cq_le a b (Fr.cp a b)
      have hml : ((b.take (b.length - Fr.cq a b (Fr.cp a b))).drop (Fr.cp a b)).length ≤ 1000000 := by rw [List.length_drop, List.length_take]; omega
      go_enter Tryd.func22, Tryd.ntmps22
      go_wp2_with (first
        | (go_at_call_of 43 v; refine HA.out.mono ?_; rintro e w1 ⟨hb1, he, -⟩; obtain rfl := he H1.out; have HB1 := hid hb1; clear hb1 he)
        | (go_at_call 43; refine (fCheckS_any G u b _ (HU.out.below HB1.out) (by omega)).mono ?_; rintro e w2 ⟨hb2, he, -⟩; obtain rfl := he H2.out; have HB2 := hid (HB1.out.trans (hb2.mono HB1.out.size)); clear hb2 he)
        | (go_at_call 44; refine (between_any F G v u a b _ (HV.out.below HB2.out) (HU.out.below HB2.out) (by omega) (by omega) (by omega) (by omega)).mono ?_; rintro e w3 ⟨am, cm, rfl, hm3, hb3⟩; have HB3 := hid (And.intro hm3 (HB2.out.trans (hb3.mono HB2.out.size))); clear hm3 hb3)
        | (go_at_call 45; refine (dFrame_any G _ _ _ am _ cm _ _ (Fr.val_lt _) (by omega) (by omega) HB3.out.1 hml).mono ?_; rintro e w4 ⟨v4, rfl, ho4, hb4⟩; have HB4 := hid (And.intro ho4 (And.intro HB3.out.2 (HB3.out.2.trans (hb4.mono HB3.out.2.size)))); clear ho4 hb4))
      go_ret2
      unfold PDeltaEnd
      rw [if_pos ⟨H1.out, H2.out⟩]
      refine ⟨HB4.out.2.2, _, rfl, ?_⟩
      have hl4 : (Fr.last4 a).length = 4 := by unfold Fr.last4; rw [List.length_drop]; omega
      have h := HB4.out.1
      rw [Fr.be4_val hl4] at h
      exact own_mono h HB4.out.2.1.size

end Go.Proofs.YtfldcmdhneegmaaDoor
