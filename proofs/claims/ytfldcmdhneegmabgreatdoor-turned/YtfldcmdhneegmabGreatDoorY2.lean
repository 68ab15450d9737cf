import Derived.Test.YtfldcmdhneegmabGreatDoorZ33
import Derived.Test.YtfldcmdhneegmabGreatDoorZ20
import Derived.Test.YtfldcmdhneegmabGreatDoorZ09
import Derived.Test.YtfldcmdhneegmabGreatDoorY1
import Derived.Test.YtfldcmdhneegmabGreatDoorChFa
import Derived.Test.YtfldcmdhneegmabGreatDoorChL
import Derived.Deep.RegionHeld3

/-
  package spotter's Load of bytes that are no frame.
-/
namespace Go.Proofs.YtfldcmdhneegmabGreatDoor
open Go.RowKit Go.Lib

theorem eLoad_unsound (F : Nat → Prop) (v : Value) (l : List UInt8) (w : World) (hv : BytesAt F w v l) (hl : l.length ≤ 1000000) (hs : Fr.sound l 83 = none) :
    Calls Tryz.prog 20 #[v] w (ReadNoE w) := by
  obtain ⟨ao, cap, rfl, -, -⟩ := RowAt.slice hv
  have HC := hid (fun rd => readE_unsound F (.slice ao l.length cap) l 83 rd w hv hl hs)
  clear hv hl hs
  go_enter Tryz.func20, Tryz.ntmps20
  go_wp2_with (go_at_call 44; fail)
  refine (HC.out _).mono ?_
  rintro e w1 ⟨n, s, rfl, hb⟩
  have H1 := hid hb
  clear hb
  go_wp2
  go_ret2
  exact ⟨n, s, rfl, H1.out⟩
theorem sLoad_unsound (F : Nat → Prop) (v : Value) (l : List UInt8) (w : World) (hv : BytesAt F w v l) (hl : l.length ≤ 1000000) (hs : Fr.sound l 83 = none) (hE : ErrType w) :
    Calls Tryz.prog 9 #[v] w fun e w' => e = .returned (.tuple #[.pointer none, .int .i64 5]) ∧ Below w.heap.size w w' := by
  obtain ⟨ao, cap, rfl, -, -⟩ := RowAt.slice hv
  have HC := hid (eLoad_unsound F (.slice ao l.length cap) l w hv hl hs)
  have HE := hid hE
  clear hv hl hs hE
  go_enter Tryz.func9, Tryz.ntmps9
  go_wp2_with (go_at_call 20; fail)
  refine HC.out.mono ?_
  rintro e w1 ⟨n, s, rfl, hb⟩
  have H1 := hid hb
  clear hb
  go_wp2_with (go_at_call 19; fail)
  refine (number_bytes n s w1 (HE.out.below H1.out)).mono ?_
  rintro e w2 ⟨rfl, hb⟩
  have H2 := hid (H1.out.trans (hb.mono H1.out.size))
  clear hb
  go_wp2
  go_ret2
  exact ⟨rfl, H2.out⟩

end Go.Proofs.YtfldcmdhneegmabGreatDoor

/-
  PLAIN, for Turned: a frame of which one byte is another is none.
-/
namespace Go.Proofs.YtfldcmdhneegmabGreatDoor
namespace Fr

theorem mul_back (x : Nat) (h : x < 4294967296) : x * 16777619 % 4294967296 * 899433627 % 4294967296 = x := by omega
theorem xor_byte_lt (h : Nat) (b : UInt8) (hh : h < 4294967296) : h ^^^ b.toNat < 4294967296 := by
  have h1 : b.toNat < 2 ^ 32 := by have := UInt8.toNat_lt b; omega
  have h2 : h < 2 ^ 32 := by omega
  have := Nat.xor_lt_two_pow h2 h1
  omega
theorem xor_back (a b : Nat) : a ^^^ b ^^^ b = a := by rw [Nat.xor_assoc, Nat.xor_self, Nat.xor_zero]
theorem step_inj {h h' : Nat} {b : UInt8} (h1 : h < 4294967296) (h2 : h' < 4294967296) (e : sumStep h b = sumStep h' b) : h = h' := by
  unfold sumStep at e
  have e1 := mul_back _ (xor_byte_lt h b h1)
  rw [e, mul_back _ (xor_byte_lt h' b h2)] at e1
  have e2 := congrArg (fun x => x ^^^ b.toNat) e1
  simp only [xor_back] at e2
  exact e2.symm
theorem step_other {h : Nat} {b b' : UInt8} (h1 : h < 4294967296) (hb : b ≠ b') : sumStep h b ≠ sumStep h b' := by
  intro e
  unfold sumStep at e
  have e1 := mul_back _ (xor_byte_lt h b h1)
  rw [e, mul_back _ (xor_byte_lt h b' h1)] at e1
  have e2 := congrArg (fun x => h ^^^ x) e1
  simp only [← Nat.xor_assoc, Nat.xor_self, Nat.zero_xor] at e2
  exact hb (UInt8.toNat_inj.1 e2.symm)
theorem step_lt (h : Nat) (b : UInt8) : sumStep h b < 4294967296 := Nat.mod_lt _ (by omega)
theorem fold_inj (r : List UInt8) : ∀ h h' : Nat, h < 4294967296 → h' < 4294967296 → r.foldl sumStep h = r.foldl sumStep h' → h = h' := by
  induction r with
  | nil => exact fun h h' _ _ e => e
  | cons b t ih => exact fun h h' h1 h2 e => step_inj h1 h2 (ih _ _ (step_lt _ _) (step_lt _ _) e)
theorem sumN_turn (l r : List UInt8) {x y : UInt8} (h : x ≠ y) : sumN (l ++ x :: r) ≠ sumN (l ++ y :: r) := by
  intro e
  unfold sumN at e
  rw [List.foldl_append, List.foldl_append] at e
  have hl : l.foldl sumStep 2166136261 < 4294967296 := sumN_lt l
  exact step_other hl h (fold_inj r _ _ (step_lt _ _) (step_lt _ _) e)
/-- One byte of a frame. -/
theorem sound_turn {kind : UInt8} {b : List UInt8} {i : Nat} (hi : i < b.length) {y : UInt8} (hy : y ≠ b[i]) (hb : (sound b kind).isSome = true) : sound (b.set i y) kind = none := by
  obtain ⟨r, hr⟩ := Option.isSome_iff_exists.1 hb
  cases hc : sound (b.set i y) kind with
  | none => rfl
  | some r' =>
    exfalso
    rw [sound_iff] at hr hc
    have hlen := congrArg List.length hc
    rw [List.length_set, hr] at hlen
    unfold framed at hlen
    simp only [List.length_append, List.length_cons, sum_length] at hlen
    have hrl : r'.length = r.length := by omega
    have hbl : b.length = r.length + 1 + 4 := by rw [hr]; simp [framed, sum_length]
    have hpre : (kind :: r') = (b.set i y).take (r.length + 1) := by
      rw [hc]
      unfold framed
      rw [List.take_left' (by simp [hrl])]
    have hpre0 : (kind :: r) = b.take (r.length + 1) := by
      rw [hr]
      unfold framed
      rw [List.take_left' (by simp)]
    have hsu : sum (kind :: r') = (b.set i y).drop (r.length + 1) := by
      rw [hc]
      unfold framed
      rw [List.drop_left' (by simp [hrl])]
    have hsu0 : sum (kind :: r) = b.drop (r.length + 1) := by
      rw [hr]
      unfold framed
      rw [List.drop_left' (by simp)]
    by_cases him : i < r.length + 1
    · have e1 : (b.set i y).drop (r.length + 1) = b.drop (r.length + 1) := List.drop_set_of_lt him
      rw [e1, ← hsu0] at hsu
      have hn : sumN (kind :: r') = sumN (kind :: r) := by
        have h1 := val_be4 (sumN_lt (kind :: r'))
        have h2 := val_be4 (sumN_lt (kind :: r))
        have h3 : be4 (sumN (kind :: r')) = be4 (sumN (kind :: r)) := hsu
        rw [← h1, ← h2, h3]
      have e2 : (kind :: r') = (kind :: r).set i y := by
        rw [hpre, hpre0, List.take_set]
      rw [e2] at hn
      have him' : i < (kind :: r).length := by simpa using him
      have hsplit : (kind :: r) = (kind :: r).take i ++ (kind :: r)[i] :: (kind :: r).drop (i + 1) := by
        rw [← List.drop_eq_getElem_cons him', List.take_append_drop]
      have hset : (kind :: r).set i y = (kind :: r).take i ++ y :: (kind :: r).drop (i + 1) := List.set_eq_take_append_cons_drop.trans (if_pos him')
      have hx : (kind :: r)[i] = b[i] := by
        have h4 : (kind :: r)[i]? = b[i]? := by
          rw [hpre0, List.getElem?_take_of_lt him]
        rw [List.getElem?_eq_getElem him', List.getElem?_eq_getElem hi] at h4
        exact Option.some.inj h4
      rw [hset] at hn
      conv at hn => rhs; rw [hsplit]
      exact sumN_turn _ _ (by rw [hx]; exact hy) hn
    · have e1 : (b.set i y).take (r.length + 1) = b.take (r.length + 1) := List.take_set_of_le (by omega)
      rw [e1, ← hpre0] at hpre
      rw [hpre] at hc
      rw [← hr] at hc
      have h5 : (b.set i y)[i]? = b[i]? := by rw [hc]
      rw [List.getElem?_set_self hi, List.getElem?_eq_getElem hi] at h5
      exact hy (Option.some.inj h5)
theorem parts_none {d : List UInt8} (h : sound d 68 = none) : parts d = none := by
  unfold parts
  rw [h]
theorem delta_sound (a b : List UInt8) : (sound (delta a b) 68).isSome = true := by
  unfold delta
  rw [sound_framed]
  rfl
theorem delta_len (a b : List UInt8) (h4 : 4 ≤ a.length) (ha : a.length ≤ 10000) (hb : b.length ≤ 10000) : 11 ≤ (delta a b).length ∧ (delta a b).length ≤ 20000 := by
  have h1 := cp_le a b
  have h2 := cq_le a b (cp a b)
  have n1 := num_pos (cp a b)
  have n2 := num_pos (cq a b (cp a b))
  have m1 := num_length64 (n := cp a b) (by omega)
  have m2 := num_length64 (n := cq a b (cp a b)) (by omega)
  unfold delta framed last4
  simp only [List.length_append, List.length_cons, sum_length, List.length_drop, List.length_take]
  omega
end Fr
end Go.Proofs.YtfldcmdhneegmabGreatDoor

/-
  The law Turned, walked.
-/
namespace Go.Proofs.YtfldcmdhneegmabGreatDoor
open Go.RowKit Go.Lib

theorem EvsIn.below {w w' : World} {v : Value} {l : List KV} (h : EvsIn w v l) (hb : Below w.heap.size w w') : EvsIn w' v l :=
  ⟨h.1, fun i hi => by
    obtain ⟨b, o, c, he, hlt, c0, c1, c2⟩ := h.2 i hi
    exact ⟨b, o, c, he, Nat.lt_of_lt_of_le hlt hb.size, (cell_bel hb ⟨b, o + i * 3, none⟩ hlt).trans c0, (cell_bel hb ⟨b, o + i * 3 + 1, none⟩ hlt).trans c1, (cell_bel hb ⟨b, o + i * 3 + 2, none⟩ hlt).trans c2⟩⟩
/-- A row of bytes of the call's own. -/
def OwnB (base : Nat) (w : World) (v : Value) (b : List UInt8) : Prop := w.ownsRow base 5 1 v b.length (byteCells b)
theorem OwnB.bytes {base : Nat} {w : World} {v : Value} {b : List UInt8} (h : OwnB base w v b) : BytesAt (fun g => g < w.heap.size) w v b := by
  have hr := RowAt.ofOwn h
  exact RowAt.mono hr (fun g hg _ => hg)
theorem KAt.save {w wr : World} {sb eb : Nat} {G : Nat → Prop} {W Next : Int} {R : List En.Ev} {B : List En.Rn} {K : Nat} {T : Int → Int} {i j : Nat} (h : KAt w wr sb eb G W Next R B K T i j) (hi : i ≤ 100000) (hT : Pow10 wr) :
    Calls Tryz.prog 7 #[.pointer (some ⟨sb, 0, none⟩)] wr fun e w' => ∃ a c n b, e = .returned (.slice a n c) ∧ b.length = n ∧ OwnB wr.heap.size w' (.slice a n c) b ∧ Below wr.heap.size wr w' ∧ (Fr.sound b 83).isSome = true ∧ 9 ≤ b.length ∧ b.length ≤ 8010 := by
  obtain ⟨F, vs, vq, vr, Q, A, h1, hB, h3⟩ := h.g
  subst hB
  have hn := h.next
  obtain ⟨hok, hlen⟩ := svOk_of aba_fine h1.pw h.v h1.hp h1.perm (by omega) (by have := h.wm; omega)
  refine (sSave_any F sb eb ⟨abaL, 20⟩ W Next vs vq vr Q A wr h1.sblk h1.pe hok hT).mono ?_
  rintro e w' ⟨v, rfl, ho, hb⟩
  obtain ⟨a, c, rfl⟩ := own_slice ho
  refine ⟨a, c, _, _, rfl, rfl, ho, hb, ?_, ?_, ?_⟩
  · have hst : ∃ r, En.stateB (Pl.text abaL 20) W Next Q (A.map Prod.fst) = 83 :: r := ⟨_, by unfold En.stateB En.headB; rw [List.cons_append, List.cons_append]⟩
    obtain ⟨r, hr⟩ := hst
    show (Fr.sound (Fr.framed (En.stateB (Pl.text abaL 20) W Next Q (A.map Prod.fst))) 83).isSome = true
    rw [hr, Fr.sound_framed]
    rfl
  · have t1 := Fr.num_pos (Pl.text abaL 20).length
    have t2 := Fr.num_pos (Fr.zig W)
    have t3 := Fr.num_pos Next.toNat
    have t4 := Fr.num_pos Q.length
    have t5 := Fr.num_pos (A.map Prod.fst).length
    show 9 ≤ (Fr.framed (En.stateB (Pl.text abaL 20) W Next Q (A.map Prod.fst))).length
    unfold Fr.framed
    simp only [En.stateB, En.headB, Fr.mom, List.length_append, List.length_cons, Fr.sum_length]
    omega
  · have hl2 : (En.stateB (Pl.text abaL 20) W Next Q (A.map Prod.fst)).length ≤ 8000 := hlen
    show (Fr.framed (En.stateB (Pl.text abaL 20) W Next Q (A.map Prod.fst))).length ≤ 8010
    unfold Fr.framed
    rw [List.length_append, Fr.sum_length]
    omega

/-- A byte, turned by a number from 1 to 255. -/
theorem turn_byte (x : UInt8) (q : Nat) (h1 : 1 ≤ q) (h2 : q ≤ 255) : ∃ z : UInt8, z ≠ x ∧ bits .xor .u8 (x.toNat : Int) (q : Int) = (z.toNat : Int) := by
  have hx := UInt8.toNat_lt x
  have hlt : x.toNat ^^^ q < 2 ^ 8 := Nat.xor_lt_two_pow (by omega) (by omega)
  refine ⟨UInt8.ofNat (x.toNat ^^^ q), fun e => ?_, ?_⟩
  · have e1 := congrArg UInt8.toNat e
    rw [Fr.toNat_ofNat (by omega)] at e1
    have e2 := congrArg (fun y => x.toNat ^^^ y) e1
    simp only [← Nat.xor_assoc, Nat.xor_self, Nat.zero_xor] at e2
    omega
  · rw [Fr.toNat_ofNat (by omega)]
    exact u8_xor_nat x.toNat q (by omega) (by omega)
/-- A byte of a row of the call's own is written. -/
theorem OwnB.set {base g n cap : Nat} {w : World} {b : List UInt8} (h : OwnB base w (.slice (some ⟨g, 0, none⟩) n cap) b) (hn : n = b.length) (p : Nat) (z : UInt8) : OwnB base (w.setCell ⟨g, p, none⟩ (.int .u8 z.toNat)) (.slice (some ⟨g, 0, none⟩) n cap) (b.set p z) := by
  subst hn
  have h1 := own_write h p (.int .u8 z.toNat)
  unfold OwnB
  have e1 : (byteCells b).set p (.int .u8 z.toNat) = byteCells (b.set p z) := by
    unfold byteCells
    rw [List.map_set]
  rw [List.length_set]
  rw [e1] at h1
  exact h1

end Go.Proofs.YtfldcmdhneegmabGreatDoor

/-
  The law Turned, walked: whole.
-/
namespace Go.Proofs.YtfldcmdhneegmabGreatDoor
open Go.RowKit Go.Lib

theorem OwnB.some {base : Nat} {w : World} {a : Option Addr} {n c : Nat} {b : List UInt8} (h : OwnB base w (.slice a n c) b) (h0 : 0 < b.length) : ∃ g, a = Option.some ⟨g, 0, none⟩ ∧ n = b.length ∧ base ≤ g ∧ g < w.heap.size := by
  rcases h.2 with ⟨-, h1⟩ | ⟨g, cap, cur, hv, hg, hh, -⟩
  · omega
  · injection hv with e1 e2 e3
    exact ⟨g, e1, e2, hg, lt_of_block hh⟩
theorem OwnB.cell {base g n c : Nat} {w : World} {b : List UInt8} (h : OwnB base w (.slice (Option.some ⟨g, 0, none⟩) n c) b) {p : Nat} (hp : p < b.length) : w.cell? ⟨g, p, none⟩ = Option.some (.int .u8 b[p].toNat) ∧ w.frozen? ⟨g, p, none⟩ = false := by
  rcases h.2 with ⟨he, -⟩ | ⟨g', cap', cur, he, -, hg, -, -, h5, h6⟩
  · cases he
  · cases he
    refine ⟨?_, by simp [World.frozen?, hg]⟩
    have h7 : (cur.toList.take (b.length * 1))[p]? = (byteCells b)[p]? := by rw [h6]
    rw [List.getElem?_take_of_lt (by omega)] at h7
    simp [World.cell?, hg]
    rw [← Array.getElem?_toList, h7]
    simp [byteCells, hp]
theorem OwnB.below {base : Nat} {w w' : World} {v : Value} {b : List UInt8} (h : OwnB base w v b) (hb : Below w.heap.size w w') : OwnB base w' v b := own_below h hb
theorem OwnB.mono {base base' : Nat} {w : World} {v : Value} {b : List UInt8} (h : OwnB base w v b) (hb : base' ≤ base) : OwnB base' w v b := own_mono h hb
theorem OwnB.off {base g p : Nat} {w : World} {v u : Value} {b : List UInt8} (h : OwnB base w v b) (hg : v.ownBlock ≠ Option.some g) : OwnB base (w.setCell ⟨g, p, none⟩ u) v b := ownsRow_setCell_other h (a := ⟨g, p, none⟩) hg _

set_option maxHeartbeats 4000000 in
set_option maxRecDepth 1000000 in
theorem turned_any (ao bo : Option Addr) (cap bcap : Nat) (l m : List KV) (at0 by0 : Int) (w : World) (hE : EnvG w) (hT : Pow10 w) (hl : EvsIn w (.slice ao l.length cap) l) (hm : EvsIn w (.slice bo m.length bcap) m) (ha0 : -9223372036854775808 ≤ at0) (ha1 : at0 ≤ 9223372036854775807) (hb0 : -9223372036854775808 ≤ by0) (hb1 : by0 ≤ 9223372036854775807) :
    Calls Tryz.prog 3 #[.slice ao l.length cap, .slice bo m.length bcap, .int .i64 at0, .int .i64 by0] w fun e w' => e = .returned (.bool true) ∧ Below w.heap.size w w' := by
  have HE := hid (And.intro hE hT)
  have HL := hid (And.intro hl hm)
  clear hE hT hl hm
  go_enter Tryz.func3, Tryz.ntmps3
  go_wp2_with (go_at_call 6; fail)
  refine (kEngine_any ao cap l w HE.out.1 HL.out.1).mono ?_
  rintro e w1 ⟨xb, xe, Gx, Wx, Nx, Rx, Bx, Kx, Tx, rfl, hx⟩
  have HX := hid hx
  clear hx
  go_wp2_with (go_at_call 6; fail)
  refine (kEngine_any bo bcap m w1 (HE.out.1.below HX.out.bel) (HL.out.2.below HX.out.bel)).mono ?_
  rintro e w2 ⟨yb, ye, Gy, Wy, Ny, Ry, By, Ky, Ty, rfl, hy⟩
  have HY := hid hy
  have b12 : Below w.heap.size w w2 := HX.out.bel.trans (hy.bel.mono HX.out.bel.size)
  have HB2 := hid b12
  have s2 := b12.size
  clear hy b12
  go_wp2_with (go_at_call 7; fail)
  refine ((HX.out.below HY.out.bel).save (by omega) (HE.out.2.below HB2.out)).mono ?_
  rintro e w3 ⟨a3, c3, nb, b, rfl, hnb, ho3, hb3, hso3, h93, hl3⟩
  have H3 := hid (And.intro ho3 (And.intro hb3 hso3))
  have s3 := hb3.size
  clear ho3 hb3 hso3
  go_wp2_with (go_at_call 7; fail)
  refine ((HY.out.below H3.out.2.1).save (by omega) ((HE.out.2.below HB2.out).below H3.out.2.1)).mono ?_
  rintro e w4 ⟨a4, c4, n4, b4, rfl, -, ho4, hb4, hso4, h94, hl4⟩
  have H4 := hid (And.intro ho4 (And.intro hb4 (And.intro hso4 (H3.out.1.below hb4))))
  have s4 := hb4.size
  clear ho4 hb4 hso4
  have hEr4 : ErrType w4 := ((HE.out.1.err.below HB2.out).below H3.out.2.1).below H4.out.2.1
  have HEr4 := hid hEr4
  clear hEr4
  go_wp2_with (go_at_call 8; fail)
  refine (sDelta_any (fun g => g < w4.heap.size) (fun g => g < w4.heap.size) _ _ b b4 w4 H4.out.2.2.2.bytes H4.out.1.bytes (by omega) (by omega) HEr4.out).mono ?_
  rintro e w5 ⟨hb5, hd5⟩
  rw [if_pos ⟨H3.out.2.2, H4.out.2.2.1⟩] at hd5
  obtain ⟨v5, rfl, ho5⟩ := hd5
  obtain ⟨d, hd⟩ : ∃ d, Fr.delta b b4 = d := ⟨_, rfl⟩
  rw [hd] at ho5
  have hdl := Fr.delta_len b b4 (by omega) (by omega) (by omega)
  have hds := Fr.delta_sound b b4
  rw [hd] at hdl hds
  obtain ⟨nd, hnd⟩ : ∃ nd, d.length = nd := ⟨_, rfl⟩
  obtain ⟨a5, c5, rfl⟩ := own_slice ho5
  have ho5' : OwnB w4.heap.size w5 (.slice a5 d.length c5) d := ho5
  rw [hnd] at ho5' ⊢
  have H5 := hid (And.intro ho5' (And.intro hb5 (And.intro hds (H4.out.2.2.2.below hb5))))
  have s5 := hb5.size
  clear ho5 ho5' hb5 hds hd
  have n1 : decide ((nd : Int) < 9) = false := decide_eq_false (by omega)
  have n2 : decide ((nb : Int) < 9) = false := decide_eq_false (by omega)
  go_upto_if 51 with fail
  go_cut [2] (fun sA wx => ∃ u : Nat, sA = .int .i64 u ∧ wx = w5 ∧ u ≤ 9223372036854775807)
  case first =>
    by_cases h0 : at0 < 0
    · have hww : IntKind.i64.wrap (at0 + 1) = at0 + 1 := wrap_small (by omega) (by omega)
      have hwn : IntKind.i64.wrap (-(at0 + 1)) = -(at0 + 1) := wrap_small (by omega) (by omega)
      go_wp2
      go_meet
      case rel => exact ⟨(-(at0 + 1)).toNat, by rw [Int.toNat_of_nonneg (by omega)], rfl, by omega⟩
    · have h0' : decide (at0 < 0) = false := decide_eq_false h0
      go_wp2
      go_meet
      case rel => exact ⟨at0.toNat, by rw [Int.toNat_of_nonneg (by omega)], rfl, by omega⟩
  case rest =>
    obtain ⟨u, rfl, hwx, hu⟩ := hcut
    have hwx' := hwx.symm
    subst hwx'
    go_upto_if 56 with fail
    go_cut [3] (fun sB wx => ∃ q : Nat, sB = .int .i64 q ∧ wx = w5 ∧ q ≤ 9223372036854775807)
    case first =>
      by_cases h0 : by0 < 0
      · have hww : IntKind.i64.wrap (by0 + 1) = by0 + 1 := wrap_small (by omega) (by omega)
        have hwn : IntKind.i64.wrap (-(by0 + 1)) = -(by0 + 1) := wrap_small (by omega) (by omega)
        go_wp2
        go_meet
        case rel => exact ⟨(-(by0 + 1)).toNat, by rw [Int.toNat_of_nonneg (by omega)], rfl, by omega⟩
      · have h0' : decide (by0 < 0) = false := decide_eq_false h0
        go_wp2
        go_meet
        case rel => exact ⟨by0.toNat, by rw [Int.toNat_of_nonneg (by omega)], rfl, by omega⟩
    case rest =>
      obtain ⟨q, rfl, hwx, hq⟩ := hcut
      have hwx' := hwx.symm
      subst hwx'
      obtain ⟨i0, hi0, hz0, hz1, hz2⟩ := info_parts Tryz.infoByteW
      go_wp2_with (at_builtin; refine wpList_append_row rfl _ _ 25 rfl w5.heap.size 5 i0 (.int .u8 0) 1 1 Tryz.underlying25 hi0 hz0 hz1 hz2 rfl (by decide) _ _ _ rfl (own_nothing (new_at rfl) (Nat.le_refl _)) (fun _ => True) _ b.length (byteCells b) rfl (RowAt.mono (H5.out.2.2.2.bytes.below ((Below.refl _ _).alloc (Nat.le_refl _) _)) (fun _ _ _ => trivial)) (oneCell_bytes b) (by unfold maxLen; omega) (by omega) (by simp) ?_)
      intro v6 w6 ho6 gr6
      have ho6' : OwnB w5.heap.size w6 v6 b := by
        unfold OwnB
        rw [hnb]
        simpa using ho6
      have hb6 : Below w5.heap.size w5 w6 := ((Below.refl _ w5).alloc (Nat.le_refl _) _).grown gr6 (by simp) (fun k hk => by cases hk; exact Nat.le_refl _)
      obtain ⟨a6, c6, rfl⟩ := own_slice ho6'
      rw [hnb] at ho6' ⊢
      obtain ⟨g6, rfl, -, hg6, hl6⟩ := ho6'.some (by omega)
      clear ho6 gr6
      obtain ⟨p, hp⟩ : ∃ p, u % nb = p := ⟨_, rfl⟩
      have hpl : p < nb := by rw [← hp]; exact Nat.mod_lt _ (by omega)
      have hpi : (u : Int).tmod (nb : Int) = (p : Int) := by rw [← hp]; rfl
      have hpe : (u : Int) % (nb : Int) = (p : Int) := by rw [← hp]; rfl
      obtain ⟨r, hr⟩ : ∃ r, u % nd = r := ⟨_, rfl⟩
      have hrl : r < nd := by rw [← hr]; exact Nat.mod_lt _ (by omega)
      have hri : (u : Int).tmod (nd : Int) = (r : Int) := by rw [← hr]; rfl
      have hre : (u : Int) % (nd : Int) = (r : Int) := by rw [← hr]; rfl
      have hnb0 : ¬ ((nb : Int) = 0) := by omega
      have hnd0 : ¬ ((nd : Int) = 0) := by omega
      have hnb1 : ¬ (nb = 0) := by omega
      have hnd1 : ¬ (nd = 0) := by omega
      have hpl' : (p : Int) < (nb : Int) := by omega
      have hrl' : (r : Int) < (nd : Int) := by omega
      obtain ⟨κ, hκ⟩ : ∃ κ, 1 + q % 255 = κ := ⟨_, rfl⟩
      have hκb : 1 ≤ κ ∧ κ ≤ 255 := by omega
      have hκw : IntKind.i64.wrap (κ : Int) = (κ : Int) := wrap_small (by omega) (by omega)
      have hκu : IntKind.u8.wrap (κ : Int) = (κ : Int) := by
        simp [IntKind.wrap, IntKind.bits, IntKind.signed]
        omega
      have hκi : IntKind.u8.wrap (IntKind.i64.wrap (1 + (q : Int).tmod 255)) = (κ : Int) := by
        have e1 : (q : Int).tmod 255 = ((q % 255 : Nat) : Int) := rfl
        rw [e1, show (1 : Int) + ((q % 255 : Nat) : Int) = (κ : Int) by omega, hκw, hκu]
      have HKI := hid hκi
      clear hκi hκw hκu
      obtain ⟨z, hz, hzx⟩ := turn_byte (b[p]'(by omega)) κ hκb.1 hκb.2
      obtain ⟨y, hy, hyx⟩ := turn_byte (d[r]'(by omega)) κ hκb.1 hκb.2
      obtain ⟨k6, f6⟩ := ho6'.cell (p := p) (by omega)
      have H6 := hid (And.intro ho6' (And.intro hb6 (And.intro hz (And.intro hy (And.intro (H5.out.1.below hb6) (H5.out.2.2.2.below hb6))))))
      have s6 := hb6.size
      obtain ⟨x, hx⟩ : ∃ x, b[p]'(by omega) = x := ⟨_, rfl⟩
      rw [hx] at k6 hzx
      have HX2 := hid hx
      clear ho6' hb6 hz hy hp hr hκ hx
      go_wp2
      go_region_law (fail)
      rw [HKI.out, hzx]
      have hb7 : Below w5.heap.size w5 (w6.setCell ⟨g6, p, none⟩ (.int .u8 z.toNat)).drew := (H6.out.2.1.setCell hg6 _).drew
      have ho7 : OwnB w5.heap.size (w6.setCell ⟨g6, p, none⟩ (.int .u8 z.toNat)).drew (.slice (some ⟨g6, 0, none⟩) nb c6) (b.set p z) := H6.out.1.set hnb.symm p z
      have n5 : (Value.slice a5 nd c5).ownBlock ≠ some g6 := fun e => by have := (H5.out.1.lt g6 e).2; omega
      have n3 : (Value.slice a3 nb c3).ownBlock ≠ some g6 := fun e => by have := (H5.out.2.2.2.lt g6 e).2; omega
      have ho75 : OwnB w4.heap.size (w6.setCell ⟨g6, p, none⟩ (.int .u8 z.toNat)).drew (.slice a5 nd c5) d := H6.out.2.2.2.2.1.off n5
      have ho73 : OwnB w2.heap.size (w6.setCell ⟨g6, p, none⟩ (.int .u8 z.toNat)).drew (.slice a3 nb c3) b := H6.out.2.2.2.2.2.off n3
      have hsd : Fr.sound (b.set p z) 83 = none := Fr.sound_turn (by omega) H6.out.2.2.1 H3.out.2.2
      generalize (w6.setCell ⟨g6, p, none⟩ (.int .u8 z.toNat)).drew = W7 at hb7 ho7 ho75 ho73 ⊢
      have H7 := hid (And.intro ho7 (And.intro hb7 (And.intro ho75 (And.intro ho73 hsd))))
      have s7 := hb7.size
      clear ho7 hb7 ho75 ho73 hsd n5 n3 k6 f6
      go_wp2_with (go_at_call 9; fail)
      refine (sLoad_unsound (fun g => g < W7.heap.size) _ (b.set p z) W7 H7.out.1.bytes (by rw [List.length_set]; omega) H7.out.2.2.2.2 ((HEr4.out.below H5.out.2.1).below H7.out.2.1)).mono ?_
      rintro e w8 ⟨rfl, hb8⟩
      have ho8 := H7.out.2.2.1.below hb8
      obtain ⟨g5, rfl, -, hg5, hl5⟩ := ho8.some (by omega)
      obtain ⟨k8, f8⟩ := ho8.cell (p := r) (by omega)
      obtain ⟨x8, hx8⟩ : ∃ x, d[r]'(by omega) = x := ⟨_, rfl⟩
      rw [hx8] at k8 hyx
      have H8 := hid (And.intro ho8 (And.intro hb8 (H7.out.2.2.2.1.below hb8)))
      have s8 := hb8.size
      clear ho8 hb8 hx8
      go_wp2
      go_region_law (fail)
      rw [HKI.out, hyx]
      have hb9 : Below w4.heap.size w4 (w8.setCell ⟨g5, r, none⟩ (.int .u8 y.toNat)).drew := ((((H5.out.2.1.trans (H7.out.2.1.mono s5)).trans (H8.out.2.1.mono (by omega)))).setCell hg5 _).drew
      have ho9 : OwnB w4.heap.size (w8.setCell ⟨g5, r, none⟩ (.int .u8 y.toNat)).drew (.slice (some ⟨g5, 0, none⟩) nd c5) (d.set r y) := H8.out.1.set hnd.symm r y
      have n3 : (Value.slice a3 nb c3).ownBlock ≠ some g5 := fun e => by have := (H4.out.2.2.2.lt g5 e).2; omega
      have ho93 : OwnB w2.heap.size (w8.setCell ⟨g5, r, none⟩ (.int .u8 y.toNat)).drew (.slice a3 nb c3) b := H8.out.2.2.off n3
      have hap : Fr.applyOf b (d.set r y) = ([], 5) := applyOf_none (Fr.parts_none (Fr.sound_turn (by omega) H6.out.2.2.2.1 H5.out.2.2.1))
      generalize (w8.setCell ⟨g5, r, none⟩ (.int .u8 y.toNat)).drew = W9 at hb9 ho9 ho93 ⊢
      have H9 := hid (And.intro ho9 (And.intro hb9 (And.intro ho93 hap)))
      have s9 := hb9.size
      clear ho9 hb9 ho93 hap n3 k8 f8
      go_wp2_with (go_at_call 10; fail)
      refine (sApply_any (fun g => g < W9.heap.size) (fun g => g < W9.heap.size) _ _ b (d.set r y) W9 H9.out.2.2.1.bytes H9.out.1.bytes (fun i hi => hi) (by omega) (by rw [List.length_set]; omega) (HEr4.out.below H9.out.2.1)).mono ?_
      rw [H9.out.2.2.2]
      rintro e w10 ⟨hb10, ⟨h0, -⟩ | ⟨-, -, rfl⟩⟩
      · simp at h0
      · have hbel : Below w.heap.size w w10 := ((HB2.out.trans (H3.out.2.1.mono s2)).trans ((H4.out.2.1.trans (H9.out.2.1.mono s4)).mono (by omega))).trans (hb10.mono (by omega))
        have H10 := hid hbel
        clear hb10 hbel
        go_wp2
        go_ret
        exact ⟨rfl, H10.out⟩

end Go.Proofs.YtfldcmdhneegmabGreatDoor
