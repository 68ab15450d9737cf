import Derived.Test.YtfldcmdhneegmabGreatDoorZ34
import Derived.Test.YtfldcmdhneegmabGreatDoorZ20
import Derived.Test.YtfldcmdhneegmabGreatDoorZ32
import Derived.OwnWalk
import Derived.Lib.AppendZerosOnto
import Derived.Lib.SliceRun
import Derived.Test.YtfldcmdhneegmabGreatDoorZ09
import Derived.Test.YtfldcmdhneegmabGreatDoorZ22

/-
  package spotter's WALK of Delta.
-/
namespace Go.Proofs.YtfldcmdhneegmabGreatDoor
open Go.RowKit Go.Lib

/-- What the program's call Delta answers. -/
def SDeltaEnd (a b : List UInt8) (w : World) (e : Ending) (w' : World) : Prop :=
  Below w.heap.size w w' ∧
    if (Fr.sound a 83).isSome = true ∧ (Fr.sound b 83).isSome = true then ∃ v, e = .returned (.tuple #[v, .int .i64 0]) ∧ w'.ownsRow w.heap.size 5 1 v (Fr.delta a b).length (byteCells (Fr.delta a b))
    else e = .returned (.tuple #[.slice none 0 0, .int .i64 5])

set_option maxHeartbeats 2000000 in
set_option maxRecDepth 1000000 in
theorem sDelta_any (F G : Nat → Prop) (v u : Value) (a b : List UInt8) (w : World) (hv : BytesAt F w v a) (hu : BytesAt G w u b) (ha : a.length ≤ 500000) (hb : b.length ≤ 500000) (hg : ErrType w) :
    Calls Tryz.prog 8 #[v, u] w (SDeltaEnd a b w) := by
  have HC := hid (cDelta_any F G v u a b w hv hu ha hb)
  have HG := hid hg
  clear hv hu hg
  by_cases h : (Fr.sound a 83).isSome = true ∧ (Fr.sound b 83).isSome = true
  · have HX := hid h
    clear h
    go_enter Tryz.func8, Tryz.ntmps8
    go_wp2_with (first
      | (go_at_call 18; refine HC.out.mono ?_; rintro e w1 ⟨hb1, he⟩; rw [if_pos HX.out] at he; obtain ⟨v1, rfl, ho⟩ := he; have H1 := hid (And.intro hb1 ho); clear hb1 ho)
      | (go_at_call 19; refine (number_nil _).mono ?_; rintro e w2 ⟨rfl, hw⟩; subst hw))
    go_ret2
    unfold SDeltaEnd
    rw [if_pos HX.out]
    exact ⟨H1.out.1, _, rfl, H1.out.2⟩
  · have HX := hid h
    clear h
    go_enter Tryz.func8, Tryz.ntmps8
    go_wp2_with (first
      | (go_at_call 18; refine HC.out.mono ?_; rintro e w1 ⟨hb1, he⟩; rw [if_neg HX.out] at he; obtain ⟨n1, s1, rfl⟩ := he; have H1 := hid hb1; clear hb1)
      | (go_at_call 19; refine (number_bytes _ _ _ (HG.out.below H1.out)).mono ?_; rintro e w2 ⟨rfl, hb2⟩; have H2 := hid (H1.out.trans (hb2.mono H1.out.size)); clear hb2))
    go_ret2
    unfold SDeltaEnd
    rw [if_neg HX.out]
    exact ⟨H2.out, rfl⟩

end Go.Proofs.YtfldcmdhneegmabGreatDoor

/-
  package slices' WALKS at rows of bytes: Grow of nil, Concat of three.
-/
namespace Go.Proofs.YtfldcmdhneegmabGreatDoor
open Go.RowKit Go.Lib

set_option maxHeartbeats 1000000 in
set_option maxRecDepth 1000000 in
theorem growB_nil (n : Nat) (w : World) (hn : n ≤ 200000000) :
    Calls Tryz.prog 163 #[.slice none 0 0, .int .i64 n] w fun e w' => ∃ v, e = .returned v ∧ w'.ownsRow w.heap.size 5 1 v 0 [] ∧ Below w.heap.size w w' := by
  obtain ⟨i0, hi, hz0, hz1, hz2⟩ := info_parts Tryz.infoByteW
  by_cases h0 : n = 0
  · subst h0
    go_enter Tryz.func163, Tryz.ntmps163
    go_wp2
    go_ret
    exact ⟨_, rfl, World.ownsRow_nil _ _ _ _, Below.refl _ _⟩
  · have h0' : (0 : Int) < (n : Int) := by omega
    have hold := run_firstCells_none (P := Tryz.prog) w.drew 1 0 0 0
    have hrz : ∀ ty, (Builtin.append_ #[25, 3] ty #[.slice none 0 0, .int .i64 n]).run Tryz.prog w =
        .ok (.slice (some ⟨w.heap.size, 0, none⟩) n (grownCap w n 0 5)) (w.drew.alloc (.cells (Builtin.zeroCells #[.int .u8 0] n ++ Builtin.zeroCells #[.int .u8 0] (grownCap w n 0 5 - n)) 5)) := fun ty => by
      have h := Lib.run_append_grow_zeros (P := Tryz.prog) w 25 3 ty 5 i0 (.int .u8 0) .i64 .i64 Tryz.underlying25 Tryz.underlying3 hi hz0 none 0 0 [] (by rw [hz1]; exact hold) n (by omega) (by omega) (by omega) (by omega) (by rw [hz2]; omega) (by rw [hz2, Nat.zero_add]; exact growslice_fits (by omega) (by omega))
      simpa [Value.cells] using h
    have hge : n ≤ grownCap w n 0 5 := grownCap_ge w _ _ _
    have hmx : grownCap w n 0 5 ≤ maxLen := grownCap_le_maxLen w n 0 5 (by unfold maxLen; omega)
    obtain ⟨G, hG⟩ : ∃ G, G = grownCap w n 0 5 := ⟨_, rfl⟩
    rw [← hG] at hrz hge hmx
    clear hold hG
    have hmx' : G ≤ 9223372036854775807 := by unfold maxLen at hmx; omega
    go_enter Tryz.func163, Tryz.ntmps163
    go_wp2_with (at_builtin; refine Lib.wpList_append_run _ rfl _ _ _ _ rfl _ _ rfl rfl _ _ (hrz _) ?_)
    go_ret
    refine ⟨_, rfl, ?_, ?_⟩
    · refine ⟨by simp, Or.inr ⟨w.heap.size, G, _, rfl, Nat.le_refl _, new_at (w := w.drew) rfl, Nat.zero_le _, hmx, ?_, by simp⟩⟩
      simp [Builtin.zeroCells]
      omega
    · exact (Below.drew (Below.refl _ w)).alloc (Nat.le_refl _) _

theorem res_threeB {W : World} {b : Nat} {x y z : Value} {t : TypeId} (h : W.heap[b]? = some (.cells #[x, y, z] t (0, 0))) : W.cell? ⟨b, 0, none⟩ = some x ∧ W.cell? ⟨b, 1, none⟩ = some y ∧ W.cell? ⟨b, 2, none⟩ = some z := by
  simp [World.cell?, h]
set_option maxHeartbeats 2000000 in
set_option maxRecDepth 1000000 in
theorem concatB_three (F G : Nat → Prop) (g : Nat) (x y z : Value) (a b c : List UInt8) (w : World) (hg : w.heap[g]? = some (.cells #[x, y, z] 25 (0, 0))) (hx : BytesAt F w x a) (hy : BytesAt G w y b) (hz : BytesAt F w z c) (hl : a.length + b.length + c.length ≤ 200000000) :
    Calls Tryz.prog 98 #[.slice (some ⟨g, 0, none⟩) 3 3] w fun e w' => ∃ v, e = .returned v ∧ w'.ownsRow w.heap.size 5 1 v (a ++ b ++ c).length (byteCells (a ++ b ++ c)) ∧ Below w.heap.size w w' := by
  obtain ⟨ax, cx, rfl, -, -⟩ := RowAt.slice hx
  obtain ⟨ay, cy, rfl, -, -⟩ := RowAt.slice hy
  obtain ⟨az, cz, rfl, -, -⟩ := RowAt.slice hz
  obtain ⟨c0, c1, c2⟩ := res_threeB hg
  obtain ⟨i0, hi, hz0, hz1, hz2⟩ := info_parts Tryz.infoByteW
  have HG := hid (growB_nil (a.length + b.length + c.length) w hl)
  have H := hid (And.intro hg (And.intro hx (And.intro hy hz)))
  clear hg hx hy hz
  go_enter Tryz.func98, Tryz.ntmps98
  go_wp2
  refine wp_loop_rounds 4 ?_
  rw [rounds_succ]
  go_wp2
  rw [rounds_succ]
  go_wp2
  rw [rounds_succ]
  go_wp2
  rw [rounds_succ]
  go_wp2_with (go_at_call 163; refine HG.out.mono ?_; rintro e w1 ⟨v, rfl, ho, hb⟩; have HB := hid (And.intro ho hb); clear ho hb)
  obtain ⟨c0', c1', c2'⟩ := res_threeB ((HB.out.2.block g (lt_of_block H.out.1)).trans H.out.1)
  refine wp_loop_rounds 4 ?_
  rw [rounds_succ]
  go_wp2_with (at_builtin; refine wpList_append_row rfl _ _ 25 rfl w.heap.size 5 i0 (.int .u8 0) 1 1 Tryz.underlying25 hi hz0 hz1 hz2 rfl (by decide) _ _ _ rfl HB.out.1 F _ a.length (byteCells a) rfl (H.out.2.1.below HB.out.2) (oneCell_bytes _) (by unfold maxLen; omega) (by omega) HB.out.2.size ?_)
  intro v2 w2 ho2 hg2
  have hb2 : Below w.heap.size w w2 := HB.out.2.grown hg2 HB.out.2.size (fun k hk => (own_block HB.out.1 k hk).1)
  obtain ⟨c0'', c1'', c2''⟩ := res_threeB ((hb2.block g (lt_of_block H.out.1)).trans H.out.1)
  have HB2 := hid (And.intro ho2 hb2)
  clear ho2 hg2 hb2
  go_wp2
  rw [rounds_succ]
  go_wp2_with (at_builtin; refine wpList_append_row rfl _ _ 25 rfl w.heap.size 5 i0 (.int .u8 0) 1 1 Tryz.underlying25 hi hz0 hz1 hz2 rfl (by decide) _ _ _ rfl HB2.out.1 G _ b.length (byteCells b) rfl (H.out.2.2.1.below HB2.out.2) (oneCell_bytes _) (by unfold maxLen; omega) (by omega) HB2.out.2.size ?_)
  intro v3 w3 ho3 hg3
  have hb3 : Below w.heap.size w w3 := HB2.out.2.grown hg3 HB2.out.2.size (fun k hk => (own_block HB2.out.1 k hk).1)
  obtain ⟨d0, d1, d2⟩ := res_threeB ((hb3.block g (lt_of_block H.out.1)).trans H.out.1)
  have HB3 := hid (And.intro ho3 hb3)
  clear ho3 hg3 hb3
  go_wp2
  rw [rounds_succ]
  go_wp2_with (at_builtin; refine wpList_append_row rfl _ _ 25 rfl w.heap.size 5 i0 (.int .u8 0) 1 1 Tryz.underlying25 hi hz0 hz1 hz2 rfl (by decide) _ _ _ rfl HB3.out.1 F _ c.length (byteCells c) rfl (H.out.2.2.2.below HB3.out.2) (oneCell_bytes _) (by unfold maxLen; omega) (by omega) HB3.out.2.size ?_)
  intro v4 w4 ho4 hg4
  have hb4 : Below w.heap.size w w4 := HB3.out.2.grown hg4 HB3.out.2.size (fun k hk => (own_block HB3.out.1 k hk).1)
  have HB4 := hid (And.intro ho4 hb4)
  clear ho4 hg4 hb4
  go_wp2
  rw [rounds_succ]
  go_wp2
  go_ret
  refine ⟨_, rfl, ?_, HB4.out.2⟩
  have h := HB4.out.1
  have e1 : (a ++ b ++ c).length = a.length + b.length + c.length := by rw [List.length_append, List.length_append]
  have e2 : byteCells (a ++ b ++ c) = byteCells a ++ (byteCells b ++ byteCells c) := by simp [byteCells]
  rw [e1, e2]
  exact h

end Go.Proofs.YtfldcmdhneegmabGreatDoor

/-
  package chain's WALKS: fits, apply.
-/
namespace Go.Proofs.YtfldcmdhneegmabGreatDoor
open Go.RowKit Go.Lib

set_option maxHeartbeats 1000000 in
set_option maxRecDepth 1000000 in
theorem dFits_any (s p q L : Nat) (am : Addr) (n cm : Nat) (w : World) (hL : L ≤ 1000000) (hp : p < 18446744073709551616) :
    Calls Tryz.prog 97 #[dval s p q (.slice (some am) n cm), .int .i64 L] w fun e w' => e = .returned (.bool (!decide (L < p ∨ L - p < q))) ∧ Below w.heap.size w w' := by
  unfold dval
  by_cases h1 : p ≤ L
  · have h1' : decide ((p : Int) ≤ (L : Int)) = true := decide_eq_true (by omega)
    by_cases h2 : q ≤ L - p
    · have h2' : decide ((q : Int) ≤ (L : Int) - (p : Int)) = true := decide_eq_true (by omega)
      have hd : decide (L < p ∨ L - p < q) = false := decide_eq_false (by omega)
      rw [hd]
      go_enter Tryz.func97, Tryz.ntmps97
      go_wp2
      go_ret
      exact ⟨rfl, (Below.refl _ _).alloc (Nat.le_refl _) _⟩
    · have h2' : decide ((q : Int) ≤ (L : Int) - (p : Int)) = false := decide_eq_false (by omega)
      have hd : decide (L < p ∨ L - p < q) = true := decide_eq_true (by omega)
      rw [hd]
      go_enter Tryz.func97, Tryz.ntmps97
      go_wp2
      go_ret
      exact ⟨rfl, (Below.refl _ _).alloc (Nat.le_refl _) _⟩
  · have h1' : decide ((p : Int) ≤ (L : Int)) = false := decide_eq_false (by omega)
    have hd : decide (L < p ∨ L - p < q) = true := decide_eq_true (by omega)
    rw [hd]
    go_enter Tryz.func97, Tryz.ntmps97
    go_wp2
    go_ret
    exact ⟨rfl, (Below.refl _ _).alloc (Nat.le_refl _) _⟩

theorem BytesAt.headU {F : Nat → Prop} {w : World} {a : Addr} {cap : Nat} {l : List UInt8} (h : BytesAt F w (.slice (some a) l.length cap) l) (i : Int) (k : Nat) (hi : i = k) (hk : k ≤ l.length) (hc : l.length ≤ cap) :
    ∃ a' n' c', (∀ W, (Instr.slice 25 (.slice (some a) l.length cap) none (some (.int .u64 i)) none).run Tryz.prog W = .ok (.slice (some a') n' c') W) ∧ BytesAt F w (.slice (some a') n' c') (l.take k) := by
  subst hi
  have hsl : ∃ a' n' c', Go.sliced (some a) 0 k cap 1 = .slice (some a') n' c' := by
    unfold Go.sliced
    split
    · exact ⟨_, _, _, rfl⟩
    · exact ⟨_, _, _, rfl⟩
  obtain ⟨a', n', c', e⟩ := hsl
  refine ⟨a', n', c', fun W => ?_, e ▸ h.to k hk⟩
  rw [← e, run_slice_h W 25 (some a) l.length cap (by rw [Tryz.elemBytes]; exact Tryz.underlying25) .u64 k (by omega) (by omega), Tryz.elemBytes, Tryz.sizeOf5]
  simp [Result.andThen]
theorem BytesAt.tailU {F : Nat → Prop} {w : World} {a : Addr} {cap : Nat} {l : List UInt8} (h : BytesAt F w (.slice (some a) l.length cap) l) (i : Int) (k : Nat) (hi : i = k) (hk : k ≤ l.length) :
    ∃ a' n' c', (∀ W, (Instr.slice 25 (.slice (some a) l.length cap) (some (.int .u64 i)) none none).run Tryz.prog W = .ok (.slice (some a') n' c') W) ∧ BytesAt F w (.slice (some a') n' c') (l.drop k) := by
  subst hi
  have hsl : ∃ a' n' c', Go.sliced (some a) k l.length cap 1 = .slice (some a') n' c' := by
    unfold Go.sliced
    split
    · exact ⟨_, _, _, rfl⟩
    · exact ⟨_, _, _, rfl⟩
  obtain ⟨a', n', c', e⟩ := hsl
  refine ⟨a', n', c', fun W => ?_, e ▸ h.from k hk⟩
  rw [← e, run_slice_l W 25 (some a) l.length cap (by rw [Tryz.elemBytes]; exact Tryz.underlying25) .u64 k (by omega) (by omega), Tryz.elemBytes, Tryz.sizeOf5]
  simp [Result.andThen]

/-- An error that becomes a number. -/
def ErrNo (c : Int) (v : Value) : Prop :=
  (c = 6 ∧ ∃ n m : Int, v = .iface 105 (.agg #[.int .u32 n, .int .u32 m])) ∨ (c = 5 ∧ ((∃ (n : Int) (s : ByteArray), v = .iface 101 (.agg #[.int .i64 n, .string s])) ∨ ∃ s : ByteArray, v = .iface 103 (.agg #[.string s])))
/-- What apply answers. -/
def ApEnd (r : List UInt8 × Int) (w : World) (e : Ending) (w' : World) : Prop :=
  Below w.heap.size w w' ∧ ((r.2 = 0 ∧ ∃ v, e = .returned (.tuple #[v, .nilIface]) ∧ w'.ownsRow w.heap.size 5 1 v r.1.length (byteCells r.1)) ∨ (r.1 = [] ∧ ∃ v, e = .returned (.tuple #[.slice none 0 0, v]) ∧ ErrNo r.2 v))

set_option maxHeartbeats 4000000 in
set_option maxRecDepth 1000000 in
theorem dApply_any (F G : Nat → Prop) (v : Value) (a m : List UInt8) (s p q : Nat) (am : Addr) (n cm : Nat) (w : World) (hv : BytesAt F w v a) (hm : BytesAt G w (.slice (some am) n cm) m) (h5 : 5 ≤ a.length) (ha : a.length ≤ 500000) (hml : m.length ≤ 100000) (hp : p < 18446744073709551616) (hq : q < 18446744073709551616) :
    Calls Tryz.prog 47 #[dval s p q (.slice (some am) n cm), v] w (ApEnd (Fr.applyIn a s p q m) w) := by
  obtain ⟨ao, ca, rfl, hca, -⟩ := RowAt.slice hv
  obtain ⟨b1, o1, rfl, -⟩ := BytesAt.get hv (i := 0) (by omega)
  have hsz : ∀ o, (w.alloc o).heap.size = w.heap.size + 1 := fun o => by simp
  have HSZ := hid hsz
  have HV := hid hv
  have HM := hid hm
  have HSum := hid (fun o => fSumOf_any F _ a (w.alloc o) (hv.below ((Below.refl _ _).alloc (Nat.le_refl _) _)) (by omega) (by omega))
  have hv32 := Fr.val_lt (a.drop (a.length - 4))
  clear hsz hv hm
  by_cases c1 : s = Fr.val (Fr.last4 a)
  · have c1' : ((Fr.val (a.drop (a.length - 4)) : Int) != (s : Int)) = false := by rw [c1]; simp [Fr.last4]
    by_cases c2 : a.length < p ∨ a.length - p < q
    · have hr : Fr.applyIn a s p q m = ([], 5) := by unfold Fr.applyIn; rw [if_neg (show ¬ (s ≠ Fr.val (Fr.last4 a)) from fun h => h c1), if_pos c2]
      have hd : (!decide (a.length < p ∨ a.length - p < q)) = false := by rw [decide_eq_true c2]; rfl
      have HF := hid (fun W => dFits_any s p q a.length am n cm W (by omega) hp)
      rw [hd] at HF
      have HR := hid hr
      clear hr c1
      unfold dval at *
      go_enter Tryz.func47, Tryz.ntmps47
      go_wp2_with (first
        | (go_at_call 83; refine (HSum.out _).mono ?_; rintro e w1 ⟨rfl, hw⟩; subst hw)
        | (go_at_call 97; refine (HF.out _).mono ?_; rintro e w2 ⟨rfl, hb2⟩; have H2 := hid (((Below.refl _ w).alloc (Nat.le_refl _) _).trans (hb2.mono (by simp))); clear hb2))
      go_ret2
      rw [HR.out]
      exact ⟨H2.out, Or.inr ⟨rfl, _, rfl, Or.inr ⟨rfl, Or.inr ⟨_, rfl⟩⟩⟩⟩
    · have hpl : p ≤ a.length := by omega
      have hql : q ≤ a.length - p := by omega
      have hd : (!decide (a.length < p ∨ a.length - p < q)) = true := by rw [decide_eq_false c2]; rfl
      have HF := hid (fun W => dFits_any s p q a.length am n cm W (by omega) hp)
      rw [hd] at HF
      obtain ⟨a1, n1, k1, hs1, hv1⟩ := HV.out.headU (p : Int) p rfl hpl hca
      obtain ⟨a2, n2, k2, hs2, hv2⟩ := HV.out.tailU ((a.length : Int) - (q : Int)) (a.length - q) (by omega) (by omega)
      have hw1 : IntKind.u64.wrap (a.length : Int) = (a.length : Int) := wrap_u64 (by omega) (by omega)
      have hw2 : IntKind.u64.wrap ((a.length : Int) - (q : Int)) = (a.length : Int) - (q : Int) := wrap_u64 (by omega) (by omega)
      obtain ⟨to, hto⟩ : ∃ to, a.take p ++ m ++ a.drop (a.length - q) = to := ⟨_, rfl⟩
      have htl : to.length ≤ 600000 := by
        rw [← hto, List.length_append, List.length_append, List.length_take, List.length_drop]
        omega
      have hr : Fr.applyIn a s p q m = if (Fr.sound (a.take p ++ m ++ a.drop (a.length - q)) 83).isSome ∧ Fr.cp a (a.take p ++ m ++ a.drop (a.length - q)) = p ∧ Fr.cq a (a.take p ++ m ++ a.drop (a.length - q)) p = q then (a.take p ++ m ++ a.drop (a.length - q), 0) else ([], 5) := by
        unfold Fr.applyIn
        rw [if_neg (show ¬ (s ≠ Fr.val (Fr.last4 a)) from fun h => h c1), if_neg c2]
      rw [hto] at hr
      have HCC : Hid (∀ (W : World) (g : Nat), W.heap[g]? = some (.cells #[.slice (some a1) n1 k1, .slice (some am) n cm, .slice (some a2) n2 k2] 25 (0, 0)) → Below w.heap.size w W → Calls Tryz.prog 98 #[.slice (some ⟨g, 0, none⟩) 3 3] W fun e w' => ∃ v, e = .returned v ∧ w'.ownsRow W.heap.size 5 1 v to.length (byteCells to) ∧ Below W.heap.size W w') := fun W g hg hb => by
        have h := concatB_three F G g _ _ _ (a.take p) m (a.drop (a.length - q)) W hg (hv1.below hb) (HM.out.below hb) (hv2.below hb) (by rw [List.length_take, List.length_drop]; omega)
        rw [hto] at h
        exact h
      have HR := hid hr
      clear hr c1 hv1 hv2 c2 hto
      unfold dval at *
      go_enter Tryz.func47, Tryz.ntmps47
      go_wp2_with (first
        | (go_at_call 83; refine (HSum.out _).mono ?_; rintro e w1 ⟨rfl, hw⟩; subst hw)
        | (go_at_call 97; refine (HF.out _).mono ?_; rintro e w2 ⟨rfl, hb2⟩; rw [HSZ.out] at hb2; obtain ⟨x0, x1, x2, x3⟩ := box_at hb2; have hlt2 := hb2.size; rw [HSZ.out] at hlt2; have H2 := hid (And.intro (((Below.refl _ w).alloc (Nat.le_refl _) _).trans (hb2.mono (by omega))) hb2); clear hb2))
      go_region_held3 (fun W => W.cell? ⟨w.heap.size, 1, none⟩ = some (.int .u64 p) ∧ W.cell? ⟨w.heap.size, 2, none⟩ = some (.int .u64 q) ∧ W.cell? ⟨w.heap.size, 3, none⟩ = some (.slice (some am) n cm)) (go_keep) ((go_at_call 98; refine (HCC.out _ _ (by first | exact heap_alloc_new w2 _ | exact new_at (by first | rfl | simp)) (by first | exact Below.drew (Below.alloc H2.out.1 H2.out.1.size _) | exact Below.alloc H2.out.1.drew H2.out.1.size _ | exact Below.alloc H2.out.1 H2.out.1.size _)).mono ?_; rintro e w3 ⟨v3, rfl, ho3, hb3⟩; have x1' := (cell_bel hb3 ⟨w.heap.size, 1, none⟩ (by simp; omega)).trans (show _ = some (Value.int IntKind.u64 p) from (World.cell?_alloc_lt w2 _ ⟨w.heap.size, 1, none⟩ hlt2).trans x1); have x2' := (cell_bel hb3 ⟨w.heap.size, 2, none⟩ (by simp; omega)).trans (show _ = some (Value.int IntKind.u64 q) from (World.cell?_alloc_lt w2 _ ⟨w.heap.size, 2, none⟩ hlt2).trans x2); have x3' := (cell_bel hb3 ⟨w.heap.size, 3, none⟩ (by simp; omega)).trans (show _ = some (Value.slice (some am) n cm) from (World.cell?_alloc_lt w2 _ ⟨w.heap.size, 3, none⟩ hlt2).trans x3); have H3 := hid (And.intro ho3 hb3); clear ho3 hb3))
      have hb3w : Below w.heap.size w w3 := (Below.drew (Below.alloc H2.out.1 H2.out.1.size _)).trans (H3.out.2.mono (by have := H2.out.1.size; simp; omega))
      have HB3 := hid hb3w
      have hlt3 : w.heap.size < w3.heap.size := by have := H3.out.2.size; simp at this; omega
      have hvt : BytesAt (fun _ => True) w3 v3 to := (RowAt.ofOwn H3.out.1).mono (fun _ _ _ => trivial)
      have HVT := hid hvt
      clear hb3w hvt
      cases hso : (Fr.sound to 83).isSome with
      | false =>
        have HSO := hid hso
        clear hso
        go_wp2_with (first | (go_at_call 35; refine (fCheckS_any (fun _ => True) v3 to _ HVT.out (by omega)).mono ?_; rintro e w4 ⟨hb4, he, he'⟩; obtain ⟨n4, s4, rfl⟩ := he' HSO.out; have y1 := (cell_bel hb4 ⟨w.heap.size, 1, none⟩ hlt3).trans x1'; have y2 := (cell_bel hb4 ⟨w.heap.size, 2, none⟩ hlt3).trans x2'; have H4 := hid (And.intro (HB3.out.trans (hb4.mono HB3.out.size)) hb4); clear hb4 he he'))
        go_ret2
        rw [HR.out, if_neg (by rw [HSO.out]; simp)]
        exact ⟨H4.out.1, Or.inr ⟨rfl, _, rfl, Or.inr ⟨rfl, Or.inl ⟨_, _, rfl⟩⟩⟩⟩
      | true =>
        have h5t := sound_four hso
        have HSO := hid hso
        clear hso
        obtain ⟨hcl, -⟩ := Fr.cp_le a to
        obtain ⟨hcq, -⟩ := Fr.cq_le a to (Fr.cp a to)
        by_cases hcp : Fr.cp a to = p
        · rw [hcp] at hcq
          by_cases hcc : Fr.cq a to p = q
          · have HX := hid (And.intro hcp hcc)
            have hn1 : ((p : Int) != (p : Int)) = false := by simp
            have hn2 : ((q : Int) != (q : Int)) = false := by simp
            clear hcp hcc
            go_wp2_with (first | (go_at_call 35; refine (fCheckS_any (fun _ => True) v3 to _ HVT.out (by omega)).mono ?_; rintro e w4 ⟨hb4, he, he'⟩; obtain rfl := he HSO.out; have y1 := (cell_bel hb4 ⟨w.heap.size, 1, none⟩ hlt3).trans x1'; have y2 := (cell_bel hb4 ⟨w.heap.size, 2, none⟩ hlt3).trans x2'; have hlt4 : w.heap.size < w4.heap.size := Nat.lt_of_lt_of_le hlt3 hb4.size; have H4 := hid (And.intro (HB3.out.trans (hb4.mono HB3.out.size)) hb4); clear hb4 he he') | (go_at_call 36; refine (between_any F (fun _ => True) _ v3 a to _ (HV.out.below H4.out.1) (HVT.out.below H4.out.2) (by omega) (by omega) (by omega) (by omega)).mono ?_; rintro e w5 ⟨am5, cm5, he, -, hb5⟩; rw [HX.out.1, HX.out.2] at he; subst he; unfold dval; have z1 := (cell_bel hb5 ⟨w.heap.size, 1, none⟩ hlt4).trans y1; have z2 := (cell_bel hb5 ⟨w.heap.size, 2, none⟩ hlt4).trans y2; have hlt5 : w.heap.size < w5.heap.size := Nat.lt_of_lt_of_le hlt4 hb5.size; have H5 := hid (And.intro (H4.out.1.trans (hb5.mono H4.out.1.size)) (H4.out.2.trans (hb5.mono H4.out.2.size))); clear hb5))
            go_ret2
            rw [HR.out, if_pos ⟨HSO.out, HX.out.1, HX.out.2⟩]
            exact ⟨H5.out.1.alloc H5.out.1.size _, Or.inl ⟨rfl, _, rfl, own_mono (own_below H3.out.1 (H5.out.2.alloc H5.out.2.size _)) (by have := H2.out.1.size; simp; omega)⟩⟩
          · obtain ⟨Q1, hQ1⟩ : ∃ Q1, Fr.cq a to p = Q1 := ⟨_, rfl⟩
            have hn1 : ((p : Int) != (p : Int)) = false := by simp
            have hn2 : ((Q1 : Int) != (q : Int)) = true := by
              rw [hQ1] at hcc
              simp
              omega
            have HX := hid (And.intro hcp (And.intro hQ1 hcc))
            clear hcp hcc hQ1 hcq
            go_wp2_with (first | (go_at_call 35; refine (fCheckS_any (fun _ => True) v3 to _ HVT.out (by omega)).mono ?_; rintro e w4 ⟨hb4, he, he'⟩; obtain rfl := he HSO.out; have y1 := (cell_bel hb4 ⟨w.heap.size, 1, none⟩ hlt3).trans x1'; have y2 := (cell_bel hb4 ⟨w.heap.size, 2, none⟩ hlt3).trans x2'; have hlt4 : w.heap.size < w4.heap.size := Nat.lt_of_lt_of_le hlt3 hb4.size; have H4 := hid (And.intro (HB3.out.trans (hb4.mono HB3.out.size)) hb4); clear hb4 he he') | (go_at_call 36; refine (between_any F (fun _ => True) _ v3 a to _ (HV.out.below H4.out.1) (HVT.out.below H4.out.2) (by omega) (by omega) (by omega) (by omega)).mono ?_; rintro e w5 ⟨am5, cm5, he, -, hb5⟩; rw [HX.out.1, HX.out.2.1] at he; subst he; unfold dval; have z1 := (cell_bel hb5 ⟨w.heap.size, 1, none⟩ hlt4).trans y1; have z2 := (cell_bel hb5 ⟨w.heap.size, 2, none⟩ hlt4).trans y2; have hlt5 : w.heap.size < w5.heap.size := Nat.lt_of_lt_of_le hlt4 hb5.size; have H5 := hid (And.intro (H4.out.1.trans (hb5.mono H4.out.1.size)) (H4.out.2.trans (hb5.mono H4.out.2.size))); clear hb5))
            go_ret2
            rw [HR.out, if_neg (fun h => HX.out.2.2 h.2.2)]
            exact ⟨H5.out.1.alloc H5.out.1.size _, Or.inr ⟨rfl, _, rfl, Or.inr ⟨rfl, Or.inr ⟨_, rfl⟩⟩⟩⟩
        · obtain ⟨P1, hP1⟩ : ∃ P1, Fr.cp a to = P1 := ⟨_, rfl⟩
          have hn1 : ((P1 : Int) != (p : Int)) = true := by
            rw [hP1] at hcp
            simp
            omega
          have HX := hid (And.intro hP1 hcp)
          clear hcp hP1 hcq hcl
          go_wp2_with (first | (go_at_call 35; refine (fCheckS_any (fun _ => True) v3 to _ HVT.out (by omega)).mono ?_; rintro e w4 ⟨hb4, he, he'⟩; obtain rfl := he HSO.out; have y1 := (cell_bel hb4 ⟨w.heap.size, 1, none⟩ hlt3).trans x1'; have y2 := (cell_bel hb4 ⟨w.heap.size, 2, none⟩ hlt3).trans x2'; have hlt4 : w.heap.size < w4.heap.size := Nat.lt_of_lt_of_le hlt3 hb4.size; have H4 := hid (And.intro (HB3.out.trans (hb4.mono HB3.out.size)) hb4); clear hb4 he he') | (go_at_call 36; refine (between_any F (fun _ => True) _ v3 a to _ (HV.out.below H4.out.1) (HVT.out.below H4.out.2) (by omega) (by omega) (by omega) (by omega)).mono ?_; rintro e w5 ⟨am5, cm5, he, -, hb5⟩; rw [HX.out.1] at he; subst he; unfold dval; have z1 := (cell_bel hb5 ⟨w.heap.size, 1, none⟩ hlt4).trans y1; have z2 := (cell_bel hb5 ⟨w.heap.size, 2, none⟩ hlt4).trans y2; have hlt5 : w.heap.size < w5.heap.size := Nat.lt_of_lt_of_le hlt4 hb5.size; have H5 := hid (And.intro (H4.out.1.trans (hb5.mono H4.out.1.size)) (H4.out.2.trans (hb5.mono H4.out.2.size))); clear hb5))
          go_ret2
          rw [HR.out, if_neg (fun h => HX.out.2 h.2.1)]
          exact ⟨H5.out.1.alloc H5.out.1.size _, Or.inr ⟨rfl, _, rfl, Or.inr ⟨rfl, Or.inr ⟨_, rfl⟩⟩⟩⟩
  · have c1' : ((Fr.val (a.drop (a.length - 4)) : Int) != (s : Int)) = true := by
      simp
      intro e
      exact c1 (by unfold Fr.last4; omega)
    have hr : Fr.applyIn a s p q m = ([], 6) := by unfold Fr.applyIn; rw [if_pos c1]
    have HR := hid hr
    clear hr c1
    unfold dval
    go_enter Tryz.func47, Tryz.ntmps47
    go_wp2_with (first
      | (go_at_call 83; refine (HSum.out _).mono ?_; rintro e w1 ⟨rfl, hw⟩; subst hw))
    go_quiet (fail)
    go_wp2
    go_ret2
    rw [HR.out]
    exact ⟨bel_drewN ((Below.refl _ w).alloc (Nat.le_refl _) _) _, Or.inr ⟨rfl, _, rfl, Or.inl ⟨rfl, _, _, rfl⟩⟩⟩

end Go.Proofs.YtfldcmdhneegmabGreatDoor

/-
  package chain's WALK of Apply; package spotter's.
-/
namespace Go.Proofs.YtfldcmdhneegmabGreatDoor
open Go.RowKit Go.Lib

theorem parts_len {d sl m : List UInt8} {p q : Nat} (h : Fr.parts d = some (sl, p, q, m)) : m.length ≤ d.length := by
  rw [(Fr.parts_back h).1]
  unfold Fr.framed
  simp
  omega
theorem applyOf_unsound {a d : List UInt8} (h : (Fr.sound a 83).isSome = false) : Fr.applyOf a d = ([], 5) := by
  unfold Fr.applyOf
  rw [if_neg (by rw [h]; exact Bool.false_ne_true)]
theorem applyOf_none {a d : List UInt8} (h : Fr.parts d = none) : Fr.applyOf a d = ([], 5) := by
  unfold Fr.applyOf
  rw [h]
  split <;> rfl
theorem apEnd_bytes {r : List UInt8 × Int} {w w' : World} {n : Int} {s : ByteArray} (h : r = ([], 5)) (hb : Below w.heap.size w w') : ApEnd r w (.returned (.tuple #[.slice none 0 0, .iface 101 (.agg #[.int .i64 n, .string s])])) w' := by
  subst h
  exact ⟨hb, Or.inr ⟨rfl, _, rfl, Or.inr ⟨rfl, Or.inl ⟨_, _, rfl⟩⟩⟩⟩
theorem ApEnd.on {r : List UInt8 × Int} {w w1 w' : World} {e : Ending} (h : ApEnd r w1 e w') (hb : Below w.heap.size w w1) : ApEnd r w e w' := by
  obtain ⟨h1, h2⟩ := h
  refine ⟨hb.trans (h1.mono hb.size), ?_⟩
  rcases h2 with ⟨h0, v, he, ho⟩ | h2
  · exact Or.inl ⟨h0, v, he, own_mono ho hb.size⟩
  · exact Or.inr h2

theorem ApEnd.two {r : List UInt8 × Int} {w w' : World} {e : Ending} (h : ApEnd r w e w') : ∃ x y, e = .returned (.tuple #[x, y]) ∧ ApEnd r w (.returned (.tuple #[x, y])) w' := by
  have h' := h
  rcases h.2 with ⟨_, v, rfl, _⟩ | ⟨_, v, rfl, _⟩
  · exact ⟨_, _, rfl, h'⟩
  · exact ⟨_, _, rfl, h'⟩

set_option maxHeartbeats 2000000 in
set_option maxRecDepth 1000000 in
theorem cApply_any (F G : Nat → Prop) (v u : Value) (a d : List UInt8) (w : World) (hv : BytesAt F w v a) (hu : BytesAt G w u d) (hG : ∀ i, G i → i < w.heap.size) (ha : a.length ≤ 500000) (hd : d.length ≤ 65536) :
    Calls Tryz.prog 21 #[v, u] w (ApEnd (Fr.applyOf a d) w) := by
  have HV := hid hv
  have HU := hid hu
  have HA := hid (fCheckS_any F v a w hv (by omega))
  clear hv hu
  cases h1 : (Fr.sound a 83).isSome with
  | false =>
    have HX := hid h1
    clear h1
    go_enter Tryz.func21, Tryz.ntmps21
    go_wp2_with (go_at_call 35; refine HA.out.mono ?_; rintro e w1 ⟨hb1, -, he⟩; obtain ⟨n1, s1, rfl⟩ := he HX.out; have HB1 := hid hb1; clear hb1 he)
    go_ret2
    exact apEnd_bytes (applyOf_unsound HX.out) HB1.out
  | true =>
    have h5 := sound_four h1
    have H1 := hid h1
    clear h1
    cases hp : Fr.parts d with
    | none =>
      have HX := hid hp
      clear hp
      go_enter Tryz.func21, Tryz.ntmps21
      go_wp2_with (first
        | (go_at_call 35; refine HA.out.mono ?_; rintro e w1 ⟨hb1, he, -⟩; obtain rfl := he H1.out; have HB1 := hid hb1; clear hb1 he)
        | (go_at_call 46; refine (opened_any G u d _ (HU.out.below HB1.out) (fun i h => Nat.lt_of_lt_of_le (hG i h) HB1.out.size) (by omega)).mono ?_; rintro e w2 ⟨hb2, he⟩; rw [HX.out] at he; obtain ⟨n2, s2, rfl⟩ := he; have HB2 := hid (HB1.out.trans (hb2.mono HB1.out.size)); clear hb2; unfold dval))
      go_ret2
      exact apEnd_bytes (applyOf_none HX.out) (HB2.out.alloc HB2.out.size _)
    | some x =>
      obtain ⟨sl, p, q, m⟩ := x
      have hm := parts_len hp
      obtain ⟨-, hsl, hp64, hq64⟩ := Fr.parts_back hp
      have hin := Fr.applyOf_in (a := a) H1.out h5 (by omega) hp
      obtain ⟨S1, hS1⟩ : ∃ S1, Fr.val sl = S1 := ⟨_, rfl⟩
      rw [hS1] at hin
      have HX := hid (And.intro hp (And.intro hin hS1))
      clear hp hin hS1
      go_enter Tryz.func21, Tryz.ntmps21
      go_wp2_with (first
        | (go_at_call 35; refine HA.out.mono ?_; rintro e w1 ⟨hb1, he, -⟩; obtain rfl := he H1.out; have HB1 := hid hb1; clear hb1 he)
        | (go_at_call 46; refine (opened_any G u d _ (HU.out.below HB1.out) (fun i h => Nat.lt_of_lt_of_le (hG i h) HB1.out.size) (by omega)).mono ?_; rintro e w2 ⟨hb2, he⟩; rw [HX.out.1] at he; obtain ⟨am, n, cm, rfl, hm2⟩ := he; rw [HX.out.2.2]; have HB2 := hid (And.intro (HB1.out.trans (hb2.mono HB1.out.size)) hm2); clear hb2 hm2; unfold dval)
        | (go_at_call 47; refine (dApply_any F G v a m S1 p q am n cm _ (HV.out.below (HB2.out.1.alloc HB2.out.1.size _)) (HB2.out.2.below ((Below.refl _ _).alloc (Nat.le_refl _) _)) h5 ha (by omega) hp64 hq64).mono ?_; rintro e w3 h3; rw [← HX.out.2.1] at h3; obtain ⟨x3, y3, rfl, h3⟩ := h3.two; have H3 := hid (h3.on (HB2.out.1.alloc HB2.out.1.size _)); clear h3))
      go_ret2
      exact H3.out

/-- What the program's call Apply answers. -/
def SApEnd (r : List UInt8 × Int) (w : World) (e : Ending) (w' : World) : Prop :=
  Below w.heap.size w w' ∧ ((r.2 = 0 ∧ ∃ v, e = .returned (.tuple #[v, .int .i64 0]) ∧ w'.ownsRow w.heap.size 5 1 v r.1.length (byteCells r.1)) ∨ (r.2 ≠ 0 ∧ r.1 = [] ∧ e = .returned (.tuple #[.slice none 0 0, .int .i64 r.2])))

theorem sap_of {l : List UInt8} {c : Int} {w w1 w2 : World} {x y : Value} (h : ApEnd (l, c) w (.returned (.tuple #[x, y])) w1) (hb : Below w1.heap.size w1 w2) : SApEnd (l, c) w (.returned (.tuple #[x, .int .i64 c])) w2 := by
  refine ⟨h.1.trans (hb.mono h.1.size), ?_⟩
  rcases h.2 with ⟨h0, v, he, ho⟩ | ⟨h0, v, he, hn⟩
  · injection he with he
    injection he with he
    simp at he
    obtain ⟨rfl, -⟩ := he
    have h0' : c = 0 := h0
    subst h0'
    exact Or.inl ⟨rfl, _, rfl, own_below ho hb⟩
  · injection he with he
    injection he with he
    simp at he
    obtain ⟨rfl, -⟩ := he
    refine Or.inr ⟨?_, h0, rfl⟩
    rcases hn with ⟨hc, _⟩ | ⟨hc, _⟩
    · rw [hc]; decide
    · rw [hc]; decide

set_option maxHeartbeats 2000000 in
set_option maxRecDepth 1000000 in
theorem sApply_any (F G : Nat → Prop) (v u : Value) (a d : List UInt8) (w : World) (hv : BytesAt F w v a) (hu : BytesAt G w u d) (hG : ∀ i, G i → i < w.heap.size) (ha : a.length ≤ 500000) (hd : d.length ≤ 65536) (hg : ErrType w) :
    Calls Tryz.prog 10 #[v, u] w (SApEnd (Fr.applyOf a d) w) := by
  have HC := hid (cApply_any F G v u a d w hv hu hG ha hd)
  have HG := hid hg
  have HN : Hid (∀ (w1 : World) (x y : Value), ApEnd (Fr.applyOf a d) w (.returned (.tuple #[x, y])) w1 → Calls Tryz.prog 19 #[y] w1 fun e w' => e = .returned (.int .i64 (Fr.applyOf a d).2) ∧ Below w1.heap.size w1 w') := fun w1 x y h => by
    have hE := HG.out.below h.1
    rcases h.2 with ⟨h0, v, he, _⟩ | ⟨_, v, he, hn⟩
    · rw [h0]
      injection he with he
      injection he with he
      simp at he
      obtain ⟨-, rfl⟩ := he
      exact (number_nil w1).mono fun e w' ⟨h1, h2⟩ => ⟨h1, by rw [h2]; exact Below.refl _ _⟩
    · injection he with he
      injection he with he
      simp at he
      obtain ⟨-, rfl⟩ := he
      rcases hn with ⟨hc, n, m, rfl⟩ | ⟨hc, ⟨n, s, rfl⟩ | ⟨s, rfl⟩⟩
      · rw [hc]; exact number_other n m w1 hE
      · rw [hc]; exact number_bytes n s w1 hE
      · rw [hc]; exact number_fault s w1 hE
  clear hv hu hg
  obtain ⟨r, hr⟩ : ∃ r, Fr.applyOf a d = r := ⟨_, rfl⟩
  rw [hr] at HC HN ⊢
  clear hr
  obtain ⟨l0, C⟩ := r
  simp only [] at HN
  go_enter Tryz.func10, Tryz.ntmps10
  go_wp2_with (first
    | (go_at_call 21; refine HC.out.mono ?_; rintro e w1 h1; obtain ⟨x1, y1, rfl, h1⟩ := h1.two; have H1 := hid h1; clear h1)
    | (go_at_call 19; refine (HN.out _ _ _ H1.out).mono ?_; rintro e w2 ⟨rfl, hb2⟩; have H2 := hid hb2; clear hb2))
  go_ret2
  exact sap_of H1.out H2.out

end Go.Proofs.YtfldcmdhneegmabGreatDoor
