import Derived.Test.YtfldcmdhneegmabGreatDoorZ33
import Derived.Test.YtfldcmdhneegmabGreatDoorZ20
import Derived.Test.YtfldcmdhneegmabGreatDoorZ09
import Derived.Test.YtfldcmdhneegmabGreatDoorU1
import Derived.Test.YtfldcmdhneegmabGreatDoorX1
import Derived.Deep.RegionHeld3
import Derived.Test.YtfldcmdhneegmabGreatDoorX4

/-
  package spotter's Load of bytes that are no frame.
-/
namespace Go.Proofs.YtfldcmdhneegmabGreatDoor
open Go.RowKit Go.Lib

theorem eLoad_unsound (F : Nat → Prop) (v : Value) (l : List UInt8) (w : World) (hv : BytesAt F w v l) (hl : l.length ≤ 1000000) (hs : Fr.sound l 83 = none) :
    Calls Tryz.prog 20 #[v] w (ReadNoE w) := by
  obtain ⟨ao, cap, rfl, -, -⟩ := RowAt.slice hv
  have HC := hid (fun rd => readE_unsound F (.slice ao l.length cap) l 83 rd w hv hl hs)
  clear hv hl hs
  go_enter Tryz.func20, Tryz.ntmps20
  go_wp2_with (go_at_call 44; fail)
  refine (HC.out _).mono ?_
  rintro e w1 ⟨n, s, rfl, hb⟩
  have H1 := hid hb
  clear hb
  go_wp2
  go_ret2
  exact ⟨n, s, rfl, H1.out⟩
theorem sLoad_unsound (F : Nat → Prop) (v : Value) (l : List UInt8) (w : World) (hv : BytesAt F w v l) (hl : l.length ≤ 1000000) (hs : Fr.sound l 83 = none) (hE : ErrType w) :
    Calls Tryz.prog 9 #[v] w fun e w' => e = .returned (.tuple #[.pointer none, .int .i64 5]) ∧ Below w.heap.size w w' := by
  obtain ⟨ao, cap, rfl, -, -⟩ := RowAt.slice hv
  have HC := hid (eLoad_unsound F (.slice ao l.length cap) l w hv hl hs)
  have HE := hid hE
  clear hv hl hs hE
  go_enter Tryz.func9, Tryz.ntmps9
  go_wp2_with (go_at_call 20; fail)
  refine HC.out.mono ?_
  rintro e w1 ⟨n, s, rfl, hb⟩
  have H1 := hid hb
  clear hb
  go_wp2_with (go_at_call 19; fail)
  refine (number_bytes n s w1 (HE.out.below H1.out)).mono ?_
  rintro e w2 ⟨rfl, hb⟩
  have H2 := hid (H1.out.trans (hb.mono H1.out.size))
  clear hb
  go_wp2
  go_ret2
  exact ⟨rfl, H2.out⟩

end Go.Proofs.YtfldcmdhneegmabGreatDoor

/-
  PLAIN, for Turned: a frame of which one byte is another is none.
-/
namespace Go.Proofs.YtfldcmdhneegmabGreatDoor
namespace Fr

theorem mul_back (x : Nat) (h : x < 4294967296) : x * 16777619 % 4294967296 * 899433627 % 4294967296 = x := by omega
theorem xor_byte_lt (h : Nat) (b : UInt8) (hh : h < 4294967296) : h ^^^ b.toNat < 4294967296 := by
  have h1 : b.toNat < 2 ^ 32 := by have := UInt8.toNat_lt b; omega
  have h2 : h < 2 ^ 32 := by omega
  have := Nat.xor_lt_two_pow h2 h1
  omega
theorem xor_back (a b : Nat) : a ^^^ b ^^^ b = a := by rw [Nat.xor_assoc, Nat.xor_self, Nat.xor_zero]
theorem step_inj {h h' : Nat} {b : UInt8} (h1 : h < 4294967296) (h2 : h' < 4294967296) (e : sumStep h b = sumStep h' b) : h = h' := by
  unfold sumStep at e
  have e1 := mul_back _ (xor_byte_lt h b h1)
  rw [e, mul_back _ (xor_byte_lt h' b h2)] at e1
  have e2 := congrArg (fun x => x ^^^ b.toNat) e1
  simp only [xor_back] at e2
  exact e2.symm
theorem step_other {h : Nat} {b b' : UInt8} (h1 : h < 4294967296) (hb : b ≠ b') : sumStep h b ≠ sumStep h b' := by
  intro e
  unfold sumStep at e
  have e1 := mul_back _ (xor_byte_lt h b h1)
  rw [e, mul_back _ (xor_byte_lt h b' h1)] at e1
  have e2 := congrArg (fun x => h ^^^ x) e1
  simp only [← Nat.xor_assoc, Nat.xor_self, Nat.zero_xor] at e2
  exact hb (UInt8.toNat_inj.1 e2.symm)
theorem step_lt (h : Nat) (b : UInt8) : sumStep h b < 4294967296 := Nat.mod_lt _ (by omega)
theorem fold_inj (r : List UInt8) : ∀ h h' : Nat, h < 4294967296 → h' < 4294967296 → r.foldl sumStep h = r.foldl sumStep h' → h = h' := by
  induction r with
  | nil => exact fun h h' _ _ e => e
  | cons b t ih => exact fun h h' h1 h2 e => step_inj h1 h2 (ih _ _ (step_lt _ _) (step_lt _ _) e)
theorem sumN_turn (l r : List UInt8) {x y : UInt8} (h : x ≠ y) : sumN (l ++ x :: r) ≠ sumN (l ++ y :: r) := by
  intro e
  unfold sumN at e
  rw [List.foldl_append, List.foldl_append] at e
  have hl : l.foldl sumStep 2166136261 < 4294967296 := sumN_lt l
  exact step_other hl h (fold_inj r _ _ (step_lt _ _) (step_lt _ _) e)
/-- One byte of a frame. -/
theorem sound_turn {kind : UInt8} {b : List UInt8} {i : Nat} (hi : i < b.length) {y : UInt8} (hy : y ≠ b[i]) (hb : (sound b kind).isSome = true) : sound (b.set i y) kind = none := by
  obtain ⟨r, hr⟩ := Option.isSome_iff_exists.1 hb
  cases hc : sound (b.set i y) kind with
  | none => rfl
  | some r' =>
    exfalso
    rw [sound_iff] at hr hc
    have hlen := congrArg List.length hc
    rw [List.length_set, hr] at hlen
    unfold framed at hlen
    simp only [List.length_append, List.length_cons, sum_length] at hlen
    have hrl : r'.length = r.length := by omega
    have hbl : b.length = r.length + 1 + 4 := by rw [hr]; simp [framed, sum_length]
    have hpre : (kind :: r') = (b.set i y).take (r.length + 1) := by
      rw [hc]
      unfold framed
      rw [List.take_left' (by simp [hrl])]
    have hpre0 : (kind :: r) = b.take (r.length + 1) := by
      rw [hr]
      unfold framed
      rw [List.take_left' (by simp)]
    have hsu : sum (kind :: r') = (b.set i y).drop (r.length + 1) := by
      rw [hc]
      unfold framed
      rw [List.drop_left' (by simp [hrl])]
    have hsu0 : sum (kind :: r) = b.drop (r.length + 1) := by
      rw [hr]
      unfold framed
      rw [List.drop_left' (by simp)]
    by_cases him : i < r.length + 1
    · have e1 : (b.set i y).drop (r.length + 1) = b.drop (r.length + 1) := List.drop_set_of_lt him
      rw [e1, ← hsu0] at hsu
      have hn : sumN (kind :: r') = sumN (kind :: r) := by
        have h1 := val_be4 (sumN_lt (kind :: r'))
        have h2 := val_be4 (sumN_lt (kind :: r))
        have h3 : be4 (sumN (kind :: r')) = be4 (sumN (kind :: r)) := hsu
        rw [← h1, ← h2, h3]
      have e2 : (kind :: r') = (kind :: r).set i y := by
        rw [hpre, hpre0, List.take_set]
      rw [e2] at hn
      have him' : i < (kind :: r).length := by simpa using him
      have hsplit : (kind :: r) = (kind :: r).take i ++ (kind :: r)[i] :: (kind :: r).drop (i + 1) := by
        rw [← List.drop_eq_getElem_cons him', List.take_append_drop]
      have hset : (kind :: r).set i y = (kind :: r).take i ++ y :: (kind :: r).drop (i + 1) := List.set_eq_take_append_cons_drop.trans (if_pos him')
      have hx : (kind :: r)[i] = b[i] := by
        have h4 : (kind :: r)[i]? = b[i]? := by
          rw [hpre0, List.getElem?_take_of_lt him]
        rw [List.getElem?_eq_getElem him', List.getElem?_eq_getElem hi] at h4
        exact Option.some.inj h4
      rw [hset] at hn
      conv at hn => rhs; rw [hsplit]
      exact sumN_turn _ _ (by rw [hx]; exact hy) hn
    · have e1 : (b.set i y).take (r.length + 1) = b.take (r.length + 1) := List.take_set_of_le (by omega)
      rw [e1, ← hpre0] at hpre
      rw [hpre] at hc
      rw [← hr] at hc
      have h5 : (b.set i y)[i]? = b[i]? := by rw [hc]
      rw [List.getElem?_set_self hi, List.getElem?_eq_getElem hi] at h5
      exact hy (Option.some.inj h5)
theorem parts_none {d : List UInt8} (h : sound d 68 = none) : parts d = none := by
  unfold parts
  rw [h]
theorem delta_sound (a b : List UInt8) : (sound (delta a b) 68).isSome = true := by
  unfold delta
  rw [sound_framed]
  rfl
theorem delta_len (a b : List UInt8) (h4 : 4 ≤ a.length) (ha : a.length ≤ 10000) (hb : b.length ≤ 10000) : 11 ≤ (delta a b).length ∧ (delta a b).length ≤ 20000 := by
  have h1 := cp_le a b
  have h2 := cq_le a b (cp a b)
  have n1 := num_pos (cp a b)
  have n2 := num_pos (cq a b (cp a b))
  have m1 := num_length64 (n := cp a b) (by omega)
  have m2 := num_length64 (n := cq a b (cp a b)) (by omega)
  unfold delta framed last4
  simp only [List.length_append, List.length_cons, sum_length, List.length_drop, List.length_take]
  omega
end Fr
end Go.Proofs.YtfldcmdhneegmabGreatDoor

/-
  The law Turned, walked.
-/
namespace Go.Proofs.YtfldcmdhneegmabGreatDoor
open Go.RowKit Go.Lib

theorem EvsIn.below {w w' : World} {v : Value} {l : List KV} (h : EvsIn w v l) (hb : Below w.heap.size w w') : EvsIn w' v l :=
  ⟨h.1, fun i hi => by
    obtain ⟨b, o, c, he, hlt, c0, c1, c2⟩ := h.2 i hi
    exact ⟨b, o, c, he, Nat.lt_of_lt_of_le hlt hb.size, (cell_bel hb ⟨b, o + i * 3, none⟩ hlt).trans c0, (cell_bel hb ⟨b, o + i * 3 + 1, none⟩ hlt).trans c1, (cell_bel hb ⟨b, o + i * 3 + 2, none⟩ hlt).trans c2⟩⟩
/-- A row of bytes of the call's own. -/
def OwnB (base : Nat) (w : World) (v : Value) (b : List UInt8) : Prop := w.ownsRow base 5 1 v b.length (byteCells b)
theorem OwnB.bytes {base : Nat} {w : World} {v : Value} {b : List UInt8} (h : OwnB base w v b) : BytesAt (fun g => g < w.heap.size) w v b := by
  have hr := RowAt.ofOwn h
  exact RowAt.mono hr (fun g hg _ => hg)
theorem KAt.save {w wr : World} {sb eb : Nat} {G : Nat → Prop} {W Next : Int} {R : List En.Ev} {B : List En.Rn} {K : Nat} {T : Int → Int} {i j : Nat} (h : KAt w wr sb eb G W Next R B K T i j) (hi : i ≤ 100000) (hT : Pow10 wr) :
    Calls Tryz.prog 7 #[.pointer (some ⟨sb, 0, none⟩)] wr fun e w' => ∃ a c n b, e = .returned (.slice a n c) ∧ b.length = n ∧ OwnB wr.heap.size w' (.slice a n c) b ∧ Below wr.heap.size wr w' ∧ (Fr.sound b 83).isSome = true ∧ 9 ≤ b.length ∧ b.length ≤ 8010 := by
  obtain ⟨F, vs, vq, vr, Q, A, h1, hB, h3⟩ := h.g
  subst hB
  have hn := h.next
  obtain ⟨hok, hlen⟩ := svOk_of aba_fine h1.pw h.v h1.hp h1.perm (by omega) (by have := h.wm; omega)
  refine (sSave_any F sb eb ⟨abaL, 20⟩ W Next vs vq vr Q A wr h1.sblk h1.pe hok hT).mono ?_
  rintro e w' ⟨v, rfl, ho, hb⟩
  obtain ⟨a, c, rfl⟩ := own_slice ho
  refine ⟨a, c, _, _, rfl, rfl, ho, hb, ?_, ?_, ?_⟩
  · have hst : ∃ r, En.stateB (Pl.text abaL 20) W Next Q (A.map Prod.fst) = 83 :: r := ⟨_, by unfold En.stateB En.headB; rw [List.cons_append, List.cons_append]⟩
    obtain ⟨r, hr⟩ := hst
    show (Fr.sound (Fr.framed (En.stateB (Pl.text abaL 20) W Next Q (A.map Prod.fst))) 83).isSome = true
    rw [hr, Fr.sound_framed]
    rfl
  · have t1 := Fr.num_pos (Pl.text abaL 20).length
    have t2 := Fr.num_pos (Fr.zig W)
    have t3 := Fr.num_pos Next.toNat
    have t4 := Fr.num_pos Q.length
    have t5 := Fr.num_pos (A.map Prod.fst).length
    show 9 ≤ (Fr.framed (En.stateB (Pl.text abaL 20) W Next Q (A.map Prod.fst))).length
    unfold Fr.framed
    simp only [En.stateB, En.headB, Fr.mom, List.length_append, List.length_cons, Fr.sum_length]
    omega
  · have hl2 : (En.stateB (Pl.text abaL 20) W Next Q (A.map Prod.fst)).length ≤ 8000 := hlen
    show (Fr.framed (En.stateB (Pl.text abaL 20) W Next Q (A.map Prod.fst))).length ≤ 8010
    unfold Fr.framed
    rw [List.length_append, Fr.sum_length]
    omega

/-- A byte, turned by a number from 1 to 255. -/
theorem turn_byte (x : UInt8) (q : Nat) (h1 : 1 ≤ q) (h2 : q ≤ 255) : ∃ z : UInt8, z ≠ x ∧ bits .xor .u8 (x.toNat : Int) (q : Int) = (z.toNat : Int) := by
  have hx := UInt8.toNat_lt x
  have hlt : x.toNat ^^^ q < 2 ^ 8 := Nat.xor_lt_two_pow (by omega) (by omega)
  refine ⟨UInt8.ofNat (x.toNat ^^^ q), fun e => ?_, ?_⟩
  · have e1 := congrArg UInt8.toNat e
    rw [Fr.toNat_ofNat (by omega)] at e1
    have e2 := congrArg (fun y => x.toNat ^^^ y) e1
    simp only [← Nat.xor_assoc, Nat.xor_self, Nat.zero_xor] at e2
    omega
  · rw [Fr.toNat_ofNat (by omega)]
    exact u8_xor_nat x.toNat q (by omega) (by omega)
/-- A byte of a row of the call's own is written. -/
theorem OwnB.set {base g n cap : Nat} {w : World} {b : List UInt8} (h : OwnB base w (.slice (some ⟨g, 0, none⟩) n cap) b) (hn : n = b.length) (p : Nat) (z : UInt8) : OwnB base (w.setCell ⟨g, p, none⟩ (.int .u8 z.toNat)) (.slice (some ⟨g, 0, none⟩) n cap) (b.set p z) := by
  subst hn
  have h1 := own_write h p (.int .u8 z.toNat)
  unfold OwnB
  have e1 : (byteCells b).set p (.int .u8 z.toNat) = byteCells (b.set p z) := by
    unfold byteCells
    rw [List.map_set]
  rw [List.length_set]
  rw [e1] at h1
  exact h1

end Go.Proofs.YtfldcmdhneegmabGreatDoor

/-
  The law Turned, walked: whole.
-/
namespace Go.Proofs.YtfldcmdhneegmabGreatDoor
open Go.RowKit Go.Lib

theorem OwnB.some {base : Nat} {w : World} {a : Option Addr} {n c : Nat} {b : List UInt8} (h : OwnB base w (.slice a n c) b) (h0 : 0 < b.length) : ∃ g, a = Option.some ⟨g, 0, none⟩ ∧ n = b.length ∧ base ≤ g ∧ g < w.heap.size := by
  rcases h.2 with ⟨-, h1⟩ | ⟨g, cap, cur, hv, hg, hh, -⟩
  · omega
  · injection hv with e1 e2 e3
    exact ⟨g, e1, e2, hg, lt_of_block hh⟩
theorem OwnB.cell {base g n c : Nat} {w : World} {b : List UInt8} (h : OwnB base w (.slice (Option.some ⟨g, 0, none⟩) n c) b) {p : Nat} (hp : p < b.length) : w.cell? ⟨g, p, none⟩ = Option.some (.int .u8 b[p].toNat) ∧ w.frozen? ⟨g, p, none⟩ = false := by
  rcases h.2 with ⟨he, -⟩ | ⟨g', cap', cur, he, -, hg, -, -, h5, h6⟩
  · cases he
  · cases he
    refine ⟨?_, by simp [World.frozen?, hg]⟩
    have h7 : (cur.toList.take (b.length * 1))[p]? = (byteCells b)[p]? := by rw [h6]
    rw [List.getElem?_take_of_lt (by omega)] at h7
    simp [World.cell?, hg]
    rw [← Array.getElem?_toList, h7]
    simp [byteCells, hp]
theorem OwnB.below {base : Nat} {w w' : World} {v : Value} {b : List UInt8} (h : OwnB base w v b) (hb : Below w.heap.size w w') : OwnB base w' v b := own_below h hb
theorem OwnB.mono {base base' : Nat} {w : World} {v : Value} {b : List UInt8} (h : OwnB base w v b) (hb : base' ≤ base) : OwnB base' w v b := own_mono h hb
theorem OwnB.off {base g p : Nat} {w : World} {v u : Value} {b : List UInt8} (h : OwnB base w v b) (hg : v.ownBlock ≠ Option.some g) : OwnB base (w.setCell ⟨g, p, none⟩ u) v b := ownsRow_setCell_other h (a := ⟨g, p, none⟩) hg _

set_option maxHeartbeats 4000000 in
set_option maxRecDepth 1000000 in
theorem turned_any (ao bo : Option Addr) (cap bcap : Nat) (l m : List KV) (at0 by0 : Int) (w : World) (hE : EnvG w) (hT : Pow10 w) (hl : EvsIn w (.slice ao l.length cap) l) (hm : EvsIn w (.slice bo m.length bcap) m) (ha0 : -9223372036854775808 ≤ at0) (ha1 : at0 ≤ 9223372036854775807) (hb0 : -9223372036854775808 ≤ by0) (hb1 : by0 ≤ 9223372036854775807) :
    Calls Tryz.prog 3 #[.slice ao l.length cap, .slice bo m.length bcap, .int .i64 at0, .int .i64 by0] w fun e w' => e = .returned (.bool true) ∧ Below w.heap.size w w' := by
  have HE := hid (And.intro hE hT)
  have HL := hid (And.intro hl hm)
  clear hE hT hl hm
  go_enter Tryz.func3, Tryz.ntmps3
  go_wp2_with (go_at_call 6; fail)
  refine (kEngine_any ao cap l w HE.out.1 HL.out.1).mono ?_
  rintro e w1 ⟨xb, xe, Gx, Wx, Nx, Rx, Bx, Kx, Tx, rfl, hx⟩
  have HX := hid hx
  clear hx
  go_wp2_with (go_at_call 6; fail)
  refine (kEngine_any bo bcap m w1 (HE.out.1.below HX.out.bel) (HL.out.2.below HX.out.bel)).mono ?_
  rintro e w2 ⟨yb, ye, Gy, Wy, Ny, Ry, By, Ky, Ty, rfl, hy⟩
  have HY := hid hy
  have b12 : Below w.heap.size w w2 := HX.out.bel.trans (hy.bel.mono HX.out.bel.size)
  have HB2 := hid b12
  have s2 := b12.size
  clear hy b12
  go_wp2_with (go_at_call 7; fail)
  refine ((HX.out.below HY.out.bel).save (by omega) (HE.out.2.below HB2.out)).mono ?_
  rintro e w3 ⟨a3, c3, nb, b, rfl, hnb, ho3, hb3, hso3, h93, hl3⟩
  have H3 := hid (And.intro ho3 (And.intro hb3 hso3))
  have s3 := hb3.size
  clear ho3 hb3 hso3
  go_wp2_with (go_at_call 7; fail)
  refine ((HY.out.below H3.out.2.1).save (by omega) ((HE.out.2.below HB2.out).below H3.out.2.1)).mono ?_
  rintro e w4 ⟨a4, c4, n4, b4, rfl, -, ho4, hb4, hso4, h94, hl4⟩
  have H4 := hid (And.intro ho4 (And.intro hb4 (And.intro hso4 (H3.out.1.below hb4))))
  have s4 := hb4.size
  clear ho4 hb4 hso4
  have hEr4 : ErrType w4 := ((HE.out.1.err.below HB2.out).below H3.out.2.1).below H4.out.2.1
  have HEr4 := hid hEr4
  clear hEr4
  go_wp2_with (go_at_call 8; fail)
  refine (sDelta_any (fun g => g < w4.heap.size) (fun g => g < w4.heap.size) _ _ b b4 w4 H4.out.2.2.2.bytes H4.out.1.bytes (by omega) (by omega) HEr4.out).mono ?_
  rintro e w5 ⟨hb5, hd5⟩
  rw [if_pos ⟨H3.out.2.2, H4.out.2.2.1⟩] at hd5
  obtain ⟨v5, rfl, ho5⟩ := hd5
  obtain ⟨d, hd⟩ : ∃ d, Fr.delta b b4 = d := ⟨_, rfl⟩
  rw [hd] at ho5
  have hdl := Fr.delta_len b b4 (by omega) (by omega) (by omega)
  have hds := Fr.delta_sound b b4
  rw [hd] at hdl hds
  obtain ⟨nd, hnd⟩ : ∃ nd, d.length = nd := ⟨_, rfl⟩
  obtain ⟨a5, c5, rfl⟩ := own_slice ho5
  have ho5' : OwnB w4.heap.size w5 (.slice a5 d.length c5) d := ho5
  rw [hnd] at ho5' ⊢
  have H5 := hid (And.intro ho5' (And.intro hb5 (And.intro hds (H4.out.2.2.2.below hb5))))
  have s5 := hb5.size
  clear ho5 ho5' hb5 hds hd
  have n1 : decide ((nd : Int) < 9) = false := decide_eq_false (by omega)
  have n2 : decide ((nb : Int) < 9) = false := decide_eq_false (by omega)
  go_upto_if 51 with fail
  go_cut [2] (fun sA wx => ∃ u : Nat, sA = .int .i64 u ∧ wx = w5 ∧ u ≤ 9223372036854775807)
  case first =>
    by_cases h0 : at0 < 0
    · have hww : IntKind.i64.wrap (at0 + 1) = at0 + 1 := wrap_small (by omega) (by omega)
      have hwn : IntKind.i64.wrap (-(at0 + 1)) = -(at0 + 1) := wrap_small (by omega) (by omega)
      go_wp2
      go_meet
      case rel => exact ⟨(-(at0 + 1)).toNat, by rw [Int.toNat_of_nonneg (by omega)], rfl, by omega⟩
    · have h0' : decide (at0 < 0) = false := decide_eq_false h0
      go_wp2
      go_meet
      case rel => exact ⟨at0.toNat, by rw [Int.toNat_of_nonneg (by omega)], rfl, by omega⟩
  case rest =>
    obtain ⟨u, rfl, hwx, hu⟩ := hcut
    have hwx' := hwx.symm
    subst hwx'
    go_upto_if 56 with fail
    go_cut [3] (fun sB wx => ∃ q : Nat, sB = .int .i64 q ∧ wx = w5 ∧ q ≤ 9223372036854775807)
    case first =>
      by_cases h0 : by0 < 0
      · have hww : IntKind.i64.wrap (by0 + 1) = by0 + 1 := wrap_small (by omega) (by omega)
        have hwn : IntKind.i64.wrap (-(by0 + 1)) = -(by0 + 1) := wrap_small (by omega) (by omega)
        go_wp2
        go_meet
        case rel => exact ⟨(-(by0 + 1)).toNat, by rw [Int.toNat_of_nonneg (by omega)], rfl, by omega⟩
      · have h0' : decide (by0 < 0) = false := decide_eq_false h0
        go_wp2
        go_meet
        case rel => exact ⟨by0.toNat, by rw [Int.toNat_of_nonneg (by omega)], rfl, by omega⟩
    case rest =>
      obtain ⟨q, rfl, hwx, hq⟩ := hcut
      have hwx' := hwx.symm
      subst hwx'
      obtain ⟨i0, hi0, hz0, hz1, hz2⟩ := info_parts Tryz.infoByteW
      go_wp2_with (at_builtin; refine wpList_append_row rfl _ _ 25 rfl w5.heap.size 5 i0 (.int .u8 0) 1 1 Tryz.underlying25 hi0 hz0 hz1 hz2 rfl (by decide) _ _ _ rfl (own_nothing (new_at rfl) (Nat.le_refl _)) (fun _ => True) _ b.length (byteCells b) rfl (RowAt.mono (H5.out.2.2.2.bytes.below ((Below.refl _ _).alloc (Nat.le_refl _) _)) (fun _ _ _ => trivial)) (oneCell_bytes b) (by unfold maxLen; omega) (by omega) (by simp) ?_)
      intro v6 w6 ho6 gr6
      have ho6' : OwnB w5.heap.size w6 v6 b := by
        unfold OwnB
        rw [hnb]
        simpa using ho6
      have hb6 : Below w5.heap.size w5 w6 := ((Below.refl _ w5).alloc (Nat.le_refl _) _).grown gr6 (by simp) (fun k hk => by cases hk; exact Nat.le_refl _)
      obtain ⟨a6, c6, rfl⟩ := own_slice ho6'
      rw [hnb] at ho6' ⊢
      obtain ⟨g6, rfl, -, hg6, hl6⟩ := ho6'.some (by omega)
      clear ho6 gr6
      obtain ⟨p, hp⟩ : ∃ p, u % nb = p := ⟨_, rfl⟩
      have hpl : p < nb := by rw [← hp]; exact Nat.mod_lt _ (by omega)
      have hpi : (u : Int).tmod (nb : Int) = (p : Int) := by rw [← hp]; rfl
      have hpe : (u : Int) % (nb : Int) = (p : Int) := by rw [← hp]; rfl
      obtain ⟨r, hr⟩ : ∃ r, u % nd = r := ⟨_, rfl⟩
      have hrl : r < nd := by rw [← hr]; exact Nat.mod_lt _ (by omega)
      have hri : (u : Int).tmod (nd : Int) = (r : Int) := by rw [← hr]; rfl
      have hre : (u : Int) % (nd : Int) = (r : Int) := by rw [← hr]; rfl
      have hnb0 : ¬ ((nb : Int) = 0) := by omega
      have hnd0 : ¬ ((nd : Int) = 0) := by omega
      have hnb1 : ¬ (nb = 0) := by omega
      have hnd1 : ¬ (nd = 0) := by omega
      have hpl' : (p : Int) < (nb : Int) := by omega
      have hrl' : (r : Int) < (nd : Int) := by omega
      obtain ⟨κ, hκ⟩ : ∃ κ, 1 + q % 255 = κ := ⟨_, rfl⟩
      have hκb : 1 ≤ κ ∧ κ ≤ 255 := by omega
      have hκw : IntKind.i64.wrap (κ : Int) = (κ : Int) := wrap_small (by omega) (by omega)
      have hκu : IntKind.u8.wrap (κ : Int) = (κ : Int) := by
        simp [IntKind.wrap, IntKind.bits, IntKind.signed]
        omega
      have hκi : IntKind.u8.wrap (IntKind.i64.wrap (1 + (q : Int).tmod 255)) = (κ : Int) := by
        have e1 : (q : Int).tmod 255 = ((q % 255 : Nat) : Int) := rfl
        rw [e1, show (1 : Int) + ((q % 255 : Nat) : Int) = (κ : Int) by omega, hκw, hκu]
      have HKI := hid hκi
      clear hκi hκw hκu
      obtain ⟨z, hz, hzx⟩ := turn_byte (b[p]'(by omega)) κ hκb.1 hκb.2
      obtain ⟨y, hy, hyx⟩ := turn_byte (d[r]'(by omega)) κ hκb.1 hκb.2
      obtain ⟨k6, f6⟩ := ho6'.cell (p := p) (by omega)
      have H6 := hid (And.intro ho6' (And.intro hb6 (And.intro hz (And.intro hy (And.intro (H5.out.1.below hb6) (H5.out.2.2.2.below hb6))))))
      have s6 := hb6.size
      obtain ⟨x, hx⟩ : ∃ x, b[p]'(by omega) = x := ⟨_, rfl⟩
      rw [hx] at k6 hzx
      have HX2 := hid hx
      clear ho6' hb6 hz hy hp hr hκ hx
      go_wp2
      go_region_law (fail)
      rw [HKI.out, hzx]
      have hb7 : Below w5.heap.size w5 (w6.setCell ⟨g6, p, none⟩ (.int .u8 z.toNat)).drew := (H6.out.2.1.setCell hg6 _).drew
      have ho7 : OwnB w5.heap.size (w6.setCell ⟨g6, p, none⟩ (.int .u8 z.toNat)).drew (.slice (some ⟨g6, 0, none⟩) nb c6) (b.set p z) := H6.out.1.set hnb.symm p z
      have n5 : (Value.slice a5 nd c5).ownBlock ≠ some g6 := fun e => by have := (H5.out.1.lt g6 e).2; omega
      have n3 : (Value.slice a3 nb c3).ownBlock ≠ some g6 := fun e => by have := (H5.out.2.2.2.lt g6 e).2; omega
      have ho75 : OwnB w4.heap.size (w6.setCell ⟨g6, p, none⟩ (.int .u8 z.toNat)).drew (.slice a5 nd c5) d := H6.out.2.2.2.2.1.off n5
      have ho73 : OwnB w2.heap.size (w6.setCell ⟨g6, p, none⟩ (.int .u8 z.toNat)).drew (.slice a3 nb c3) b := H6.out.2.2.2.2.2.off n3
      have hsd : Fr.sound (b.set p z) 83 = none := Fr.sound_turn (by omega) H6.out.2.2.1 H3.out.2.2
      generalize (w6.setCell ⟨g6, p, none⟩ (.int .u8 z.toNat)).drew = W7 at hb7 ho7 ho75 ho73 ⊢
      have H7 := hid (And.intro ho7 (And.intro hb7 (And.intro ho75 (And.intro ho73 hsd))))
      have s7 := hb7.size
      clear ho7 hb7 ho75 ho73 hsd n5 n3 k6 f6
      go_wp2_with (go_at_call 9; fail)
      refine (sLoad_unsound (fun g => g < W7.heap.size) _ (b.set p z) W7 H7.out.1.bytes (by rw [List.length_set]; omega) H7.out.2.2.2.2 ((HEr4.out.below H5.out.2.1).below H7.out.2.1)).mono ?_
      rintro e w8 ⟨rfl, hb8⟩
      have ho8 := H7.out.2.2.1.below hb8
      obtain ⟨g5, rfl, -, hg5, hl5⟩ := ho8.some (by omega)
      obtain ⟨k8, f8⟩ := ho8.cell (p := r) (by omega)
      obtain ⟨x8, hx8⟩ : ∃ x, d[r]'(by omega) = x := ⟨_, rfl⟩
      rw [hx8] at k8 hyx
      have H8 := hid (And.intro ho8 (And.intro hb8 (H7.out.2.2.2.1.below hb8)))
      have s8 := hb8.size
      clear ho8 hb8 hx8
      go_wp2
      go_region_law (fail)
      rw [HKI.out, hyx]
      have hb9 : Below w4.heap.size w4 (w8.setCell ⟨g5, r, none⟩ (.int .u8 y.toNat)).drew := ((((H5.out.2.1.trans (H7.out.2.1.mono s5)).trans (H8.out.2.1.mono (by omega)))).setCell hg5 _).drew
      have ho9 : OwnB w4.heap.size (w8.setCell ⟨g5, r, none⟩ (.int .u8 y.toNat)).drew (.slice (some ⟨g5, 0, none⟩) nd c5) (d.set r y) := H8.out.1.set hnd.symm r y
      have n3 : (Value.slice a3 nb c3).ownBlock ≠ some g5 := fun e => by have := (H4.out.2.2.2.lt g5 e).2; omega
      have ho93 : OwnB w2.heap.size (w8.setCell ⟨g5, r, none⟩ (.int .u8 y.toNat)).drew (.slice a3 nb c3) b := H8.out.2.2.off n3
      have hap : Fr.applyOf b (d.set r y) = ([], 5) := applyOf_none (Fr.parts_none (Fr.sound_turn (by omega) H6.out.2.2.2.1 H5.out.2.2.1))
      generalize (w8.setCell ⟨g5, r, none⟩ (.int .u8 y.toNat)).drew = W9 at hb9 ho9 ho93 ⊢
      have H9 := hid (And.intro ho9 (And.intro hb9 (And.intro ho93 hap)))
      have s9 := hb9.size
      clear ho9 hb9 ho93 hap n3 k8 f8
      go_wp2_with (go_at_call 10; fail)
      refine (sApply_any (fun g => g < W9.heap.size) (fun g => g < W9.heap.size) _ _ b (d.set r y) W9 H9.out.2.2.1.bytes H9.out.1.bytes (fun i hi => hi) (by omega) (by rw [List.length_set]; omega) (HEr4.out.below H9.out.2.1)).mono ?_
      rw [H9.out.2.2.2]
      rintro e w10 ⟨hb10, ⟨h0, -⟩ | ⟨-, -, rfl⟩⟩
      · simp at h0
      · have hbel : Below w.heap.size w w10 := ((HB2.out.trans (H3.out.2.1.mono s2)).trans ((H4.out.2.1.trans (H9.out.2.1.mono s4)).mono (by omega))).trans (hb10.mono (by omega))
        have H10 := hid hbel
        clear hb10 hbel
        go_wp2
        go_ret
        exact ⟨rfl, H10.out⟩

end Go.Proofs.YtfldcmdhneegmabGreatDoor

/-
  PLAIN, for Patched: a delta leads from one state to the other; a chain leads to the last one.
-/
namespace Go.Proofs.YtfldcmdhneegmabGreatDoor
namespace Fr

theorem tail_same (a b : List UInt8) (p : Nat) (hp : p ≤ a.length) (hpb : p ≤ b.length) : a.drop (a.length - cq a b p) = b.drop (b.length - cq a b p) := by
  have h := cp_take (a.drop p).reverse (b.drop p).reverse
  have hq := cq_le a b p
  have e : cp (a.drop p).reverse (b.drop p).reverse = cq a b p := rfl
  rw [e] at h
  have h2 := congrArg List.reverse h
  rw [List.reverse_take, List.reverse_take] at h2
  simp only [List.reverse_reverse, List.length_reverse, List.length_drop, List.drop_drop] at h2
  rw [show p + (a.length - p - cq a b p) = a.length - cq a b p by omega, show p + (b.length - p - cq a b p) = b.length - cq a b p by omega] at h2
  exact h2
theorem apply_delta {a b : List UInt8} (ha : (sound a 83).isSome = true) (hb : (sound b 83).isSome = true) (h4 : 4 ≤ a.length) (hal : a.length ≤ 100000) (hbl : b.length ≤ 100000) : applyOf a (delta a b) = (b, 0) := by
  have h1 := cp_le a b
  have h2 := cq_le a b (cp a b)
  have hl4 : (last4 a).length = 4 := by unfold last4; rw [List.length_drop]; omega
  have hp : parts (delta a b) = some (last4 a, cp a b, cq a b (cp a b), (b.take (b.length - cq a b (cp a b))).drop (cp a b)) := parts_framed hl4 (by omega) (by omega)
  have hto : a.take (cp a b) ++ (b.take (b.length - cq a b (cp a b))).drop (cp a b) ++ a.drop (a.length - cq a b (cp a b)) = b := by
    rw [cp_take a b, tail_same a b (cp a b) h1.1 h1.2]
    have e1 : b.take (cp a b) = (b.take (b.length - cq a b (cp a b))).take (cp a b) := by
      rw [List.take_take, Nat.min_eq_left (by omega)]
    rw [e1, List.take_append_drop, List.take_append_drop]
  unfold applyOf
  rw [if_pos ha, hp]
  simp only []
  rw [if_neg (fun h => h rfl), if_neg (by omega), hto, if_pos ⟨hb, rfl⟩]
theorem apply_other {a b c : List UInt8} (hc : (sound c 83).isSome = true) (h4 : 4 ≤ a.length) (hal : a.length ≤ 100000) (hbl : b.length ≤ 100000) (hne : last4 a ≠ last4 c) : applyOf c (delta a b) = ([], 6) := by
  have h1 := cp_le a b
  have h2 := cq_le a b (cp a b)
  have hl4 : (last4 a).length = 4 := by unfold last4; rw [List.length_drop]; omega
  have hp : parts (delta a b) = some (last4 a, cp a b, cq a b (cp a b), (b.take (b.length - cq a b (cp a b))).drop (cp a b)) := parts_framed hl4 (by omega) (by omega)
  unfold applyOf
  rw [if_pos hc, hp]
  simp only []
  rw [if_pos hne]
theorem short_unsound {l : List UInt8} {kind : UInt8} (h : l.length < 5) : sound l kind = none := by
  cases hs : sound l kind with
  | none => rfl
  | some r =>
    rw [sound_iff] at hs
    have := congrArg List.length hs
    unfold framed at this
    simp only [List.length_append, List.length_cons, sum_length] at this
    omega
theorem delta_no (a b : List UInt8) : sound (delta a b) 83 = none := by
  cases hs : sound (delta a b) 83 with
  | none => rfl
  | some r =>
    rw [sound_iff] at hs
    unfold delta framed at hs
    rw [List.cons_append, List.cons_append] at hs
    injection hs with h1 _
    exact absurd h1 (by decide)
theorem short_parts {l : List UInt8} (h : l.length < 5) : parts l = none := parts_none (short_unsound h)
theorem ok_short {s l : List UInt8} (h : l.length < 5) : okOf (applyOf s l) = none := by
  unfold applyOf
  rw [short_parts h]
  split <;> rfl
theorem last_none {f : Nat → Option (List UInt8)} {g : List UInt8 → Option (List UInt8)} (h : ∀ s, g s = none) : ∀ i, lastOf f g i = none := by
  intro i
  induction i with
  | zero => rfl
  | succ i ih =>
    unfold lastOf
    cases f i with
    | none => exact ih
    | some s => simp only [h s]; exact ih
/-- A frame that is too short stands for nothing. -/
theorem stands_short {fs : List (List UInt8)} {i : Nat} (h : (fs.getD i []).length < 5) : ∀ n, stands fs n i = none := by
  intro n
  cases n with
  | zero =>
    unfold stands
    rw [short_unsound h]
    rfl
  | succ n =>
    unfold stands
    rw [short_unsound h]
    exact last_none (fun s => ok_short h) i
theorem stands_state {fs : List (List UInt8)} {i : Nat} {a : List UInt8} (h : fs.getD i [] = a) (ha : (sound a 83).isSome = true) : ∀ n, stands fs n i = some a := by
  intro n
  cases n <;> (unfold stands; rw [h, if_pos ha])
theorem chain_long {a b c : List UInt8} (ha : (sound a 83).isSome = true) (hb : (sound b 83).isSome = true) (hc : (sound c 83).isSome = true) (h4 : 4 ≤ a.length) (h5 : 4 ≤ b.length) (hal : a.length ≤ 100000) (hbl : b.length ≤ 100000) (hcl : c.length ≤ 100000) (x : List UInt8) (hx : x.length < 5) :
    resolve [a, delta a b, [], delta b c, x] = (c, 3) := by
  have hd := delta_no a b
  have hf := delta_no b c
  have s4 : stands [a, delta a b, [], delta b c, x] 4 4 = none := stands_short (by simpa using hx) 4
  have s2 : stands [a, delta a b, [], delta b c, x] 3 2 = none := stands_short (by simp) 3
  have s0 : stands [a, delta a b, [], delta b c, x] 2 0 = some a := stands_state (a := a) rfl ha 2
  have s1 : stands [a, delta a b, [], delta b c, x] 3 1 = some b := by
    unfold stands
    show (if (sound (delta a b) 83).isSome = true then _ else lastOf _ (fun s => okOf (applyOf s (delta a b))) 1) = some b
    rw [hd, if_neg (by simp)]
    unfold lastOf
    rw [s0]
    simp only [apply_delta ha hb h4 hal hbl, okOf, if_true]
  have s3 : stands [a, delta a b, [], delta b c, x] 4 3 = some c := by
    unfold stands
    show (if (sound (delta b c) 83).isSome = true then _ else lastOf _ (fun s => okOf (applyOf s (delta b c))) 3) = some c
    rw [hf, if_neg (by simp)]
    unfold lastOf
    rw [s2]
    show lastOf _ _ 2 = some c
    unfold lastOf
    rw [s1]
    simp only [apply_delta hb hc h5 hbl hcl, okOf, if_true]
  show resolveTo _ 5 = _
  unfold resolveTo
  rw [s4]
  show resolveTo _ 4 = _
  unfold resolveTo
  rw [s3]
  rfl
theorem chain_two {a b : List UInt8} (ha : (sound a 83).isSome = true) : resolve [delta a b, a, []] = (a, 1) := by
  have s2 : stands [delta a b, a, []] 4 2 = none := stands_short (by simp) 4
  have s1 : stands [delta a b, a, []] 4 1 = some a := stands_state (a := a) rfl ha 4
  show resolveTo _ 3 = _
  unfold resolveTo
  rw [s2]
  show resolveTo _ 2 = _
  unfold resolveTo
  rw [s1]
  rfl
theorem chain_none (a b : List UInt8) : resolve [delta a b, []] = ([], -1) := by
  have hd := delta_no a b
  have s1 : stands [delta a b, []] 4 1 = none := stands_short (by simp) 4
  have s0 : stands [delta a b, []] 4 0 = none := by
    unfold stands
    show (if (sound (delta a b) 83).isSome = true then _ else lastOf _ (fun s => okOf (applyOf s (delta a b))) 0) = none
    rw [hd, if_neg (by simp)]
    rfl
  show resolveTo _ 2 = _
  unfold resolveTo
  rw [s1]
  show resolveTo _ 1 = _
  unfold resolveTo
  rw [s0]
  rfl
end Fr
end Go.Proofs.YtfldcmdhneegmabGreatDoor

/-
  The law Patched, walked.
-/
namespace Go.Proofs.YtfldcmdhneegmabGreatDoor
open Go.RowKit Go.Lib

theorem OwnB.u8 {base : Nat} {w : World} {v : Value} {b : List UInt8} (h : OwnB base w v b) : BytesAt (U8 w) w v b := by
  have hr := RowAt.ofOwn h
  refine ⟨hr.1, ?_⟩
  rcases hr.2 with h0 | ⟨g, o, cap, hv, -, r1, r2⟩
  · exact Or.inl h0
  · obtain ⟨-, c, fz, hh⟩ := own_block h g (by rw [hv]; rfl)
    exact Or.inr ⟨g, o, cap, hv, ⟨c, fz, hh⟩, r1, r2⟩
theorem OwnB.ne {base : Nat} {w : World} {v : Value} {b : List UInt8} (h : OwnB base w v b) (h0 : 0 < b.length) : v ≠ .slice none 0 0 := by
  intro e
  rcases h.2 with ⟨-, h1⟩ | ⟨g, cap, cur, hv, -⟩
  · omega
  · rw [e] at hv
    cases hv
theorem OwnB.str {base : Nat} {w : World} {v : Value} {b : List UInt8} (h : OwnB base w v b) (h0 : 0 < b.length) : (convert 25 9 v).run Tryz.prog w = .ok (.string ⟨b.toArray⟩) w := h.bytes.text (h.ne h0)
/-- What Apply answers, whatever it is. -/
theorem SApEnd.any {r : List UInt8 × Int} {w w' : World} {e : Ending} (h : SApEnd r w e w') : ∃ a n c, e = .returned (.tuple #[.slice a n c, .int .i64 r.2]) ∧ Below w.heap.size w w' ∧ (r.2 ≠ 0 → n = 0) ∧ (r.2 = 0 → OwnB w.heap.size w' (.slice a n c) r.1 ∧ n = r.1.length) := by
  obtain ⟨hb, ⟨h0, v, rfl, ho⟩ | ⟨h0, h1, rfl⟩⟩ := h
  · obtain ⟨a, c, rfl⟩ := own_slice ho
    exact ⟨a, _, c, by rw [h0], hb, fun h => absurd h0 h, fun _ => ⟨ho, rfl⟩⟩
  · exact ⟨none, 0, 0, rfl, hb, fun _ => rfl, fun h => absurd h h0⟩
/-- Two, three and five frames in a row. -/
theorem frs_of {w : World} {g : Nat} {cs : Array Value} {fs : List (List UInt8)} (hg : w.heap[g]? = some (.cells cs 25 (0, 0))) (hl : cs.size = fs.length) (hm : fs.length ≤ 100)
    (h : ∀ j (hj : j < fs.length), ∃ c, cs[j]? = some c ∧ ((c = .slice none 0 0 ∧ fs[j] = []) ∨ (c ≠ .slice none 0 0 ∧ BytesAt (U8 w) w c fs[j]))) :
    FrsN (fun _ => True) w (.slice (some ⟨g, 0, none⟩) fs.length fs.length) cs.toList fs := by
  refine ⟨⟨by rw [Array.length_toList, hl, Nat.mul_one], Or.inr ⟨g, 0, fs.length, rfl, trivial, lt_of_block hg, Nat.le_refl _, by unfold maxLen; omega, fun j u hj => ?_⟩⟩, fun j hj => ?_⟩
  · rw [Array.getElem?_toList] at hj
    simp [World.cell?, hg, hj]
  · obtain ⟨c, h1, h2⟩ := h j hj
    exact ⟨c, by rw [Array.getElem?_toList]; exact h1, h2⟩

theorem FrEl.own {base : Nat} {w w' : World} {v : Value} {b : List UInt8} (h : OwnB base w v b) (h0 : 0 < b.length) (hb : Below w.heap.size w w') : (v = .slice none 0 0 ∧ b = []) ∨ (v ≠ .slice none 0 0 ∧ BytesAt (U8 w') w' v b) := Or.inr ⟨h.ne h0, (h.below hb).u8⟩
theorem frs_five {W : World} {ba bd bf : Nat} {va vd vf : Value} {a d f : List UInt8} (ha : OwnB ba W va a) (hd : OwnB bd W vd d) (hf : OwnB bf W vf f) (a0 : 0 < a.length) (d0 : 0 < d.length) (f0 : 0 < f.length) :
    FrsN (fun _ => True) ((W.alloc (Obj.cells #[Value.int .u8 1, Value.int .u8 2, Value.int .u8 3] 5)).alloc (Obj.cells #[va, vd, Value.slice none 0 0, vf, Value.slice (some ⟨W.heap.size, 0, none⟩) 3 3] 25)) (.slice (some ⟨W.heap.size + 1, 0, none⟩) 5 5) #[va, vd, Value.slice none 0 0, vf, Value.slice (some ⟨W.heap.size, 0, none⟩) 3 3].toList [a, d, [], f, [1, 2, 3]] := by
  have hb : Below W.heap.size W ((W.alloc (Obj.cells #[Value.int .u8 1, Value.int .u8 2, Value.int .u8 3] 5)).alloc (Obj.cells #[va, vd, Value.slice none 0 0, vf, Value.slice (some ⟨W.heap.size, 0, none⟩) 3 3] 25)) := ((Below.refl _ W).alloc (Nat.le_refl _) _).alloc (by simp) _
  have hx : ((W.alloc (Obj.cells #[Value.int .u8 1, Value.int .u8 2, Value.int .u8 3] 5)).alloc (Obj.cells #[va, vd, Value.slice none 0 0, vf, Value.slice (some ⟨W.heap.size, 0, none⟩) 3 3] 25)).heap[W.heap.size]? = some (Obj.cells #[Value.int .u8 1, Value.int .u8 2, Value.int .u8 3] 5 (0, 0)) := (Below.heap_alloc _ _ _ (by simp)).trans (heap_alloc_new W _)
  refine frs_of (fs := [a, d, [], f, [1, 2, 3]]) (new_at (by simp)) rfl (by simp) (fun j hj => ?_)
  match j, hj with
  | 0, _ => exact ⟨va, rfl, FrEl.own ha a0 hb⟩
  | 1, _ => exact ⟨vd, rfl, FrEl.own hd d0 hb⟩
  | 2, _ => exact ⟨_, rfl, Or.inl ⟨rfl, rfl⟩⟩
  | 3, _ => exact ⟨vf, rfl, FrEl.own hf f0 hb⟩
  | 4, _ =>
    refine ⟨_, rfl, Or.inr ⟨(fun e => by cases e), ⟨rfl, Or.inr ⟨W.heap.size, 0, 3, rfl, ⟨_, _, hx⟩, lt_of_block hx, Nat.le_refl _, by unfold maxLen; omega, fun i u hi => ?_⟩⟩⟩⟩
    match i, hi with
    | 0, hi => simp [byteCells] at hi; subst hi; simp [World.cell?, hx]
    | 1, hi => simp [byteCells] at hi; subst hi; simp [World.cell?, hx]
    | 2, hi => simp [byteCells] at hi; subst hi; simp [World.cell?, hx]
    | i + 3, hi => simp [byteCells] at hi
theorem frs_three {W : World} {ba bd : Nat} {va vd : Value} {a d : List UInt8} (ha : OwnB ba W va a) (hd : OwnB bd W vd d) (a0 : 0 < a.length) (d0 : 0 < d.length) :
    FrsN (fun _ => True) (W.alloc (Obj.cells #[vd, va, Value.slice none 0 0] 25)) (.slice (some ⟨W.heap.size, 0, none⟩) 3 3) #[vd, va, Value.slice none 0 0].toList [d, a, []] := by
  have hb : Below W.heap.size W (W.alloc (Obj.cells #[vd, va, Value.slice none 0 0] 25)) := (Below.refl _ W).alloc (Nat.le_refl _) _
  refine frs_of (fs := [d, a, []]) (new_at rfl) rfl (by simp) (fun j hj => ?_)
  match j, hj with
  | 0, _ => exact ⟨vd, rfl, FrEl.own hd d0 hb⟩
  | 1, _ => exact ⟨va, rfl, FrEl.own ha a0 hb⟩
  | 2, _ => exact ⟨_, rfl, Or.inl ⟨rfl, rfl⟩⟩
theorem frs_two {W : World} {bd : Nat} {vd : Value} {d : List UInt8} (hd : OwnB bd W vd d) (d0 : 0 < d.length) :
    FrsN (fun _ => True) (W.alloc (Obj.cells #[vd, Value.slice none 0 0] 25)) (.slice (some ⟨W.heap.size, 0, none⟩) 2 2) #[vd, Value.slice none 0 0].toList [d, []] := by
  have hb : Below W.heap.size W (W.alloc (Obj.cells #[vd, Value.slice none 0 0] 25)) := (Below.refl _ W).alloc (Nat.le_refl _) _
  refine frs_of (fs := [d, []]) (new_at rfl) rfl (by simp) (fun j hj => ?_)
  match j, hj with
  | 0, _ => exact ⟨vd, rfl, FrEl.own hd d0 hb⟩
  | 1, _ => exact ⟨_, rfl, Or.inl ⟨rfl, rfl⟩⟩

set_option maxHeartbeats 4000000 in
set_option maxRecDepth 1000000 in
theorem patched_any (ao bo eo : Option Addr) (cap bcap ecap : Nat) (l m s : List KV) (w : World) (hE : EnvG w) (hT : Pow10 w) (hl : EvsIn w (.slice ao l.length cap) l) (hm : EvsIn w (.slice bo m.length bcap) m) (hs : EvsIn w (.slice eo s.length ecap) s) :
    Calls Tryz.prog 4 #[.slice ao l.length cap, .slice bo m.length bcap, .slice eo s.length ecap] w fun e w' => e = .returned (.bool true) ∧ Below w.heap.size w w' := by
  have HE := hid (And.intro hE hT)
  have HL := hid (And.intro hl (And.intro hm hs))
  clear hE hT hl hm hs
  go_enter Tryz.func4, Tryz.ntmps4
  go_wp2_with (go_at_call 6; fail)
  refine (kEngine_any ao cap l w HE.out.1 HL.out.1).mono ?_
  rintro e w1 ⟨xb, xe, Gx, Wx, Nx, Rx, Bx, Kx, Tx, rfl, hx⟩
  have HX := hid hx
  clear hx
  go_wp2_with (go_at_call 6; fail)
  refine (kEngine_any bo bcap m w1 (HE.out.1.below HX.out.bel) (HL.out.2.1.below HX.out.bel)).mono ?_
  rintro e w2 ⟨yb, ye, Gy, Wy, Ny, Ry, By, Ky, Ty, rfl, hy⟩
  have HY := hid hy
  have b12 : Below w.heap.size w w2 := HX.out.bel.trans (hy.bel.mono HX.out.bel.size)
  have HB2 := hid b12
  have s2 := b12.size
  clear hy b12
  go_wp2_with (go_at_call 6; fail)
  refine (kEngine_any eo ecap s w2 (HE.out.1.below HB2.out) (HL.out.2.2.below HB2.out)).mono ?_
  rintro e w3 ⟨zb, ze, Gz, Wz, Nz, Rz, Bz, Kz, Tz, rfl, hz⟩
  have HZ := hid hz
  have b13 : Below w.heap.size w w3 := HB2.out.trans (hz.bel.mono s2)
  have HB3 := hid b13
  have s3 := b13.size
  clear hz b13
  go_wp2_with (go_at_call 7; fail)
  refine (((HX.out.below HY.out.bel).below HZ.out.bel).save (by omega) (HE.out.2.below HB3.out)).mono ?_
  rintro e w4 ⟨aa, ca, na, a, rfl, hna, hoa, hb4, hsa, h9a, hla⟩
  have H4 := hid (And.intro hoa (And.intro hb4 (And.intro hsa (HB3.out.trans (hb4.mono s3)))))
  clear hoa hb4 hsa
  go_wp2_with (go_at_call 7; fail)
  refine (((HY.out.below HZ.out.bel).below H4.out.2.1).save (by omega) (HE.out.2.below H4.out.2.2.2)).mono ?_
  rintro e w5 ⟨ab, cb, nb, b, rfl, hnb, hob, hb5, hsb, h9b, hlb⟩
  have H5 := hid (And.intro hob (And.intro hb5 (And.intro hsb (And.intro (H4.out.2.2.2.trans (hb5.mono H4.out.2.2.2.size)) (H4.out.1.below hb5)))))
  clear hob hb5 hsb
  go_wp2_with (go_at_call 7; fail)
  refine (((HZ.out.below H4.out.2.1).below H5.out.2.1).save (by omega) (HE.out.2.below H5.out.2.2.2.1)).mono ?_
  rintro e w6 ⟨ac, cc, nc, c, rfl, hnc, hoc, hb6, hsc, h9c, hlc⟩
  have H6 := hid (And.intro hoc (And.intro (H5.out.2.2.2.1.trans (hb6.mono H5.out.2.2.2.1.size)) (And.intro hsc (And.intro (H5.out.1.below hb6) (H5.out.2.2.2.2.below hb6)))))
  clear hoc hb6 hsc
  go_wp2_with (go_at_call 8; fail)
  refine (sDelta_any (fun g => g < w6.heap.size) (fun g => g < w6.heap.size) _ _ a b w6 H6.out.2.2.2.2.bytes H6.out.2.2.2.1.bytes (by omega) (by omega) (HE.out.1.err.below H6.out.2.1)).mono ?_
  rintro e w7 ⟨hb7, hd7⟩
  rw [if_pos ⟨H4.out.2.2.1, H5.out.2.2.1⟩] at hd7
  obtain ⟨v7, rfl, ho7⟩ := hd7
  obtain ⟨d, hd⟩ : ∃ d, Fr.delta a b = d := ⟨_, rfl⟩
  rw [hd] at ho7
  have hdl := Fr.delta_len a b (by omega) (by omega) (by omega)
  rw [hd] at hdl
  obtain ⟨nd, hnd⟩ : ∃ nd, d.length = nd := ⟨_, rfl⟩
  have ho7' : OwnB w6.heap.size w7 v7 d := ho7
  rw [hnd] at ho7
  obtain ⟨ad, cd, rfl⟩ := own_slice ho7
  have H7 := hid (And.intro ho7' (And.intro (H6.out.2.1.trans (hb7.mono H6.out.2.1.size)) (And.intro (H6.out.1.below hb7) (And.intro (H6.out.2.2.2.1.below hb7) (And.intro (H6.out.2.2.2.2.below hb7) hd)))))
  clear ho7 ho7' hb7 hd
  go_wp2_with (go_at_call 8; fail)
  refine (sDelta_any (fun g => g < w7.heap.size) (fun g => g < w7.heap.size) _ _ b c w7 H7.out.2.2.2.1.bytes H7.out.2.2.1.bytes (by omega) (by omega) (HE.out.1.err.below H7.out.2.1)).mono ?_
  rintro e w8 ⟨hb8, hd8⟩
  rw [if_pos ⟨H5.out.2.2.1, H6.out.2.2.1⟩] at hd8
  obtain ⟨v8, rfl, ho8⟩ := hd8
  obtain ⟨f, hf⟩ : ∃ f, Fr.delta b c = f := ⟨_, rfl⟩
  rw [hf] at ho8
  have hfl := Fr.delta_len b c (by omega) (by omega) (by omega)
  rw [hf] at hfl
  obtain ⟨nf, hnf⟩ : ∃ nf, f.length = nf := ⟨_, rfl⟩
  have ho8' : OwnB w7.heap.size w8 v8 f := ho8
  rw [hnf] at ho8
  obtain ⟨af, cf, rfl⟩ := own_slice ho8
  have H8 := hid (And.intro ho8' (And.intro (H7.out.2.1.trans (hb8.mono H7.out.2.1.size)) (And.intro (H7.out.2.2.1.below hb8) (And.intro (H7.out.2.2.2.1.below hb8) (And.intro (H7.out.2.2.2.2.1.below hb8) (And.intro (H7.out.1.below hb8) hf))))))
  clear ho8 ho8' hb8 hf
  go_wp2_with (go_at_call 10; fail)
  have e9 : Fr.applyOf a d = (b, 0) := by
    rw [← H7.out.2.2.2.2.2]
    exact Fr.apply_delta H4.out.2.2.1 H5.out.2.2.1 (by omega) (by omega) (by omega)
  refine (sApply_any (fun g => g < w8.heap.size) (fun g => g < w8.heap.size) _ _ a d w8 H8.out.2.2.2.2.1.bytes H8.out.2.2.2.2.2.1.bytes (fun i hi => hi) (by omega) (by omega) (HE.out.1.err.below H8.out.2.1)).mono ?_
  rw [e9]
  clear e9
  rintro e w9 h9
  obtain ⟨at', nt, ct, rfl, hb9, -, hoi⟩ := h9.any
  obtain ⟨ho9, hnt⟩ := hoi rfl
  clear hoi
  have hnt' : nb = nt := (hnt.trans hnb).symm
  subst hnt'
  have ho9' : OwnB w8.heap.size w9 (.slice at' nb ct) b := ho9
  have H9 := hid (And.intro ho9' (And.intro (H8.out.2.1.trans (hb9.mono H8.out.2.1.size)) (And.intro (H8.out.2.2.1.below hb9) (And.intro (H8.out.2.2.2.1.below hb9) (And.intro (H8.out.2.2.2.2.1.below hb9) (And.intro (H8.out.2.2.2.2.2.1.below hb9) (H8.out.1.below hb9)))))))
  clear ho9 ho9' hb9 h9 hnt
  go_wp2_with (go_at_call 10; fail)
  refine (sApply_any (fun g => g < w9.heap.size) (fun g => g < w9.heap.size) _ _ c d w9 H9.out.2.2.1.bytes H9.out.2.2.2.2.2.1.bytes (fun i hi => hi) (by omega) (by omega) (HE.out.1.err.below H9.out.2.1)).mono ?_
  rintro e w10 h10
  obtain ⟨au, nu, cu, rfl, hb10, hu, -⟩ := h10.any
  have hku0 : Fr.last4 a ≠ Fr.last4 c → (Fr.applyOf c d).2 = 6 ∧ nu = 0 := fun hne => by
    have e10 : Fr.applyOf c d = ([], 6) := by
      rw [← H7.out.2.2.2.2.2]
      exact Fr.apply_other H6.out.2.2.1 (by omega) (by omega) (by omega) hne
    rw [e10] at hu ⊢
    exact ⟨rfl, hu (by simp)⟩
  obtain ⟨ku, hku⟩ : ∃ k, (Fr.applyOf c d).2 = k := ⟨_, rfl⟩
  rw [hku] at hku0 ⊢
  have hb10' : Below w.heap.size w w10 := H9.out.2.1.trans (hb10.mono H9.out.2.1.size)
  have oc := H9.out.2.2.1.below hb10
  have ob := H9.out.2.2.2.1.below hb10
  have oa := H9.out.2.2.2.2.1.below hb10
  have od := H9.out.2.2.2.2.2.1.below hb10
  have of := H9.out.2.2.2.2.2.2.below hb10
  have hcv1 := (H9.out.1.below hb10).str (by omega)
  have hcv2 := ob.str (by omega)
  obtain ⟨ga, rfl, -, -, -⟩ := oa.some (by omega)
  obtain ⟨gc, rfl, -, -, -⟩ := oc.some (by omega)
  obtain ⟨va4, hva4, hra4, hba4⟩ := BytesAt.tail (F := fun g => g < w10.heap.size) (w := w10) (a := ⟨ga, 0, none⟩) (cap := ca) (l := a) (by rw [hna]; exact oa.bytes) ((na : Int) - 4) (na - 4) (by omega) (by omega)
  obtain ⟨vc4, hvc4, hrc4, hbc4⟩ := BytesAt.tail (F := fun g => g < w10.heap.size) (w := w10) (a := ⟨gc, 0, none⟩) (cap := cc) (l := c) (by rw [hnc]; exact oc.bytes) ((nc : Int) - 4) (nc - 4) (by omega) (by omega)
  rw [hna] at hra4
  rw [hnc] at hrc4
  have hta := BytesAt.text (w := w10.drew) (show BytesAt (fun g => g < w10.heap.size) w10.drew va4 _ from hba4) hva4
  have htc := BytesAt.text (w := w10.drew) (show BytesAt (fun g => g < w10.heap.size) w10.drew vc4 _ from hbc4) hvc4
  obtain ⟨a4, n4, rfl, -, -⟩ := RowAt.slice hba4
  obtain ⟨c4, m4, rfl, -, -⟩ := RowAt.slice hbc4
  have hla4 : a.drop (na - 4) = Fr.last4 a := by unfold Fr.last4; rw [hna]
  have hlc4 : c.drop (nc - 4) = Fr.last4 c := by unfold Fr.last4; rw [hnc]
  rw [hla4] at hta hra4
  rw [hlc4] at htc hrc4
  have hwa : IntKind.i64.wrap ((na : Int) - 4) = (na : Int) - 4 := wrap_small (by omega) (by omega)
  have hwc : IntKind.i64.wrap ((nc : Int) - 4) = (nc : Int) - 4 := wrap_small (by omega) (by omega)
  have H10 := hid (And.intro hb10' (And.intro oa (And.intro ob (And.intro oc (And.intro od of)))))
  have HKU := hid hku0
  clear hb10 hb10' oa ob oc od of hku hku0 hba4 hbc4 h10 hu hva4 hvc4 hla4 hlc4
  go_upto_region 17 with fail
  go_cut [21] (fun s21 wx => ∃ sm : Bool, s21 = .bool sm ∧ wx = w10.drew ∧ Hid (sm = false → Fr.last4 a ≠ Fr.last4 c))
  case first =>
    go_region_held3 (fun W => (convert 25 9 (.slice a4 (Fr.last4 a).length n4)).run Tryz.prog W = .ok (.string ⟨(Fr.last4 a).toArray⟩) W ∧ (convert 25 9 (.slice c4 (Fr.last4 c).length m4)).run Tryz.prog W = .ok (.string ⟨(Fr.last4 c).toArray⟩) W) (go_keep) (fail)
    go_wp2
    go_meet
    case rel => exact ⟨_, rfl, rfl, fun h => by simpa using h⟩
  case rest =>
    obtain ⟨sm, rfl, hwx, hsm⟩ := hcut
    have hB11 : Below w.heap.size w w10.drew := H10.out.1.drew
    have oa : OwnB w3.heap.size w10.drew (.slice (some ⟨ga, 0, none⟩) na ca) a := H10.out.2.1
    have oc : OwnB w5.heap.size w10.drew (.slice (some ⟨gc, 0, none⟩) nc cc) c := H10.out.2.2.2.1
    have od : OwnB w6.heap.size w10.drew (.slice ad nd cd) d := H10.out.2.2.2.2.1
    have of : OwnB w7.heap.size w10.drew (.slice af nf cf) f := H10.out.2.2.2.2.2
    generalize w10.drew = W at hB11 oa oc od of hwx
    have H11 := hid (And.intro hB11 (And.intro oa (And.intro oc (And.intro od of))))
    have hwx' := hwx.symm
    subst hwx'
    clear hB11 oa oc od of hta htc hra4 hrc4 hcv1 hcv2 hwa hwc
    go_upto_region 18 with fail
    go_cut [112] (fun s112 wx => s112 = .bool false ∧ wx = W)
    case first =>
      cases sm with
      | true =>
        go_wp2
        go_meet
        case rel => exact ⟨rfl, rfl⟩
      | false =>
        obtain ⟨hk6, hn0⟩ := HKU.out (hsm.out rfl)
        subst hk6 hn0
        go_wp2
        go_meet
        case rel => exact ⟨rfl, rfl⟩
    case rest =>
      obtain ⟨rfl, hwx⟩ := hcut
      have hwx' := hwx.symm
      subst hwx'
      go_wp2_with (go_at_call 11; fail)
      have hfs := frs_five H11.out.2.1 H11.out.2.2.2.1 H11.out.2.2.2.2 (by omega) (by omega) (by omega)
      have hbW : Below W.heap.size W ((W.alloc (Obj.cells #[Value.int .u8 1, Value.int .u8 2, Value.int .u8 3] 5)).alloc (Obj.cells #[Value.slice (some ⟨ga, 0, none⟩) na ca, Value.slice ad nd cd, Value.slice none 0 0, Value.slice af nf cf, Value.slice (some ⟨W.heap.size, 0, none⟩) 3 3] 25)) := ((Below.refl _ W).alloc (Nat.le_refl _) _).alloc (by simp) _
      have hr1 : Fr.resolve [a, d, [], f, [1, 2, 3]] = (c, 3) := by
        rw [← H7.out.2.2.2.2.2, ← H8.out.2.2.2.2.2.2]
        exact Fr.chain_long H4.out.2.2.1 H5.out.2.2.1 H6.out.2.2.1 (by omega) (by omega) (by omega) (by omega) (by omega) _ (by simp)
      refine (sResolve_nil _ _ _ [a, d, [], f, [1, 2, 3]] _ hfs (fun x hx => by
        simp at hx
        rcases hx with rfl | rfl | rfl | rfl | rfl
        · omega
        · omega
        · simp
        · omega
        · simp) (by simp)).mono ?_
      rw [hr1]
      rintro e w11 ⟨v11, rfl, ho11, hb11⟩
      have ho11' : OwnB 0 w11 v11 c := own_mono ho11 (Nat.zero_le _)
      obtain ⟨a11, c11, rfl⟩ := own_slice ho11'
      have b11 : Below W.heap.size W w11 := hbW.trans (hb11.mono hbW.size)
      have H12 := hid (And.intro ho11' (And.intro (H11.out.1.trans (b11.mono H11.out.1.size)) (And.intro (H11.out.2.1.below b11) (And.intro (H11.out.2.2.1.below b11) (H11.out.2.2.2.1.below b11)))))
      clear hfs hbW hr1 ho11 ho11' hb11 b11
      go_wp2_with (go_at_call 11; fail)
      have hfs := frs_three H12.out.2.2.1 H12.out.2.2.2.2 (by omega) (by omega)
      have hbW : Below w11.heap.size w11 (w11.alloc (Obj.cells #[Value.slice ad nd cd, Value.slice (some ⟨ga, 0, none⟩) na ca, Value.slice none 0 0] 25)) := (Below.refl _ w11).alloc (Nat.le_refl _) _
      have hr2 : Fr.resolve [d, a, []] = (a, 1) := by
        rw [← H7.out.2.2.2.2.2]
        exact Fr.chain_two H4.out.2.2.1
      refine (sResolve_nil _ _ _ [d, a, []] _ hfs (fun x hx => by
        simp at hx
        rcases hx with rfl | rfl | rfl
        · omega
        · omega
        · simp) (by simp)).mono ?_
      rw [hr2]
      rintro e w12 ⟨v12, rfl, ho12, hb12⟩
      have ho12' : OwnB 0 w12 v12 a := own_mono ho12 (Nat.zero_le _)
      obtain ⟨a12, c12, rfl⟩ := own_slice ho12'
      have b12 : Below w11.heap.size w11 w12 := hbW.trans (hb12.mono hbW.size)
      have H13 := hid (And.intro ho12' (And.intro (H12.out.2.1.trans (b12.mono H12.out.2.1.size)) (And.intro (H12.out.2.2.1.below b12) (And.intro (H12.out.2.2.2.1.below b12) (And.intro (H12.out.2.2.2.2.below b12) (H12.out.1.below b12))))))
      clear hfs hbW hr2 ho12 ho12' hb12 b12
      go_wp2_with (go_at_call 11; fail)
      have hfs := frs_two H13.out.2.2.2.2.1 (by omega)
      have hbW : Below w12.heap.size w12 (w12.alloc (Obj.cells #[Value.slice ad nd cd, Value.slice none 0 0] 25)) := (Below.refl _ w12).alloc (Nat.le_refl _) _
      have hr3 : Fr.resolve [d, []] = ([], -1) := by
        rw [← H7.out.2.2.2.2.2]
        exact Fr.chain_none a b
      refine (sResolve_nil _ _ _ [d, []] _ hfs (fun x hx => by
        simp at hx
        rcases hx with rfl | rfl
        · omega
        · simp) (by simp)).mono ?_
      rw [hr3]
      rintro e w13 ⟨v13, rfl, ho13, hb13⟩
      obtain ⟨a13, c13, rfl⟩ := own_slice ho13
      have b13 : Below w12.heap.size w12 w13 := hbW.trans (hb13.mono hbW.size)
      have q1 := (H13.out.2.2.2.2.2.below b13).str (by omega)
      have q2 := (H13.out.2.2.2.1.below b13).str (by omega)
      have q3 := (H13.out.1.below b13).str (by omega)
      have q4 := (H13.out.2.2.1.below b13).str (by omega)
      rw [hnc] at q1
      rw [hna] at q3
      have H14 := hid (H13.out.2.1.trans (b13.mono H13.out.2.1.size))
      clear hfs hbW hr3 ho13 hb13 b13
      go_wp2
      go_ret
      exact ⟨rfl, H14.out⟩

end Go.Proofs.YtfldcmdhneegmabGreatDoor
