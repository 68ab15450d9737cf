/-
  package chain's WALKS: the Reader's Sum.
-/
import Derived.Test.YtfldcmdhneegmaaFrZd
import Derived.Test.YtfldcmdhneegmaaFrD
namespace Go.Proofs.Ytfldcmdhneegmaa
open Go.RowKit Go.Lib

/-- Four bytes, j of which are read. -/
def fourOf (x : Nat → UInt8) (j : Nat) : Array Value := #[.int .u8 (if 0 < j then ((x 0).toNat : Int) else 0), .int .u8 (if 1 < j then ((x 1).toNat : Int) else 0), .int .u8 (if 2 < j then ((x 2).toNat : Int) else 0), .int .u8 (if 3 < j then ((x 3).toNat : Int) else 0)]
theorem four_put {w : World} {b : Nat} {t : TypeId} {x : Nat → UInt8} {j : Nat} (hj : j < 4) (h : w.heap[b]? = some (.cells (fourOf x j) t (0, 0))) : (w.setCell ⟨b, j, none⟩ (.int .u8 (x j).toNat)).heap[b]? = some (.cells (fourOf x (j + 1)) t (0, 0)) ∧ w.cell? ⟨b, j, none⟩ = some (.int .u8 0) ∧ w.frozen? ⟨b, j, none⟩ = false := by
  rcases (by omega : j = 0 ∨ j = 1 ∨ j = 2 ∨ j = 3) with rfl | rfl | rfl | rfl
  · exact ⟨(set_four h _).1, (blk_four h).1, (blk_four h).2.2.2.2 0⟩
  · exact ⟨(set_four h _).2.1, (blk_four h).2.1, (blk_four h).2.2.2.2 1⟩
  · exact ⟨(set_four h _).2.2.1, (blk_four h).2.2.1, (blk_four h).2.2.2.2 2⟩
  · exact ⟨(set_four h _).2.2.2, (blk_four h).2.2.2.1, (blk_four h).2.2.2.2 3⟩
theorem four_row {w : World} {b : Nat} {t : TypeId} {x : Nat → UInt8} (h : w.heap[b]? = some (.cells (fourOf x 4) t (0, 0))) : BytesAt (fun i => i = b) w (.slice (some ⟨b, 0, none⟩) 4 4) [x 0, x 1, x 2, x 3] := by
  obtain ⟨c0, c1, c2, c3, -⟩ := blk_four h
  refine ⟨rfl, Or.inr ⟨b, 0, 4, rfl, rfl, lt_of_block h, Nat.le_refl _, by unfold maxLen; omega, fun j u hj => ?_⟩⟩
  match j, hj with
  | 0, hj => simp [byteCells] at hj; subst hj; exact c0
  | 1, hj => simp [byteCells] at hj; subst hj; exact c1
  | 2, hj => simp [byteCells] at hj; subst hj; exact c2
  | 3, hj => simp [byteCells] at hj; subst hj; exact c3
  | j + 4, hj => simp [byteCells] at hj
theorem take_four {l : List UInt8} {k : Nat} (h : k + 4 ≤ l.length) : [l.getD (k + 0) 0, l.getD (k + 1) 0, l.getD (k + 2) 0, l.getD (k + 3) 0] = (l.drop k).take 4 := by
  have h0 : l.drop k = l[k] :: l[k + 1] :: l[k + 2] :: l[k + 3] :: l.drop (k + 4) := by
    rw [List.drop_eq_getElem_cons (i := k) (by omega), List.drop_eq_getElem_cons (i := k + 1) (by omega), List.drop_eq_getElem_cons (i := k + 1 + 1) (by omega), List.drop_eq_getElem_cons (i := k + 1 + 1 + 1) (by omega)]
  rw [h0]
  have e : ∀ i (hi : k + i < l.length), l.getD (k + i) 0 = l[k + i] := fun i hi => by simp [hi]
  rw [e 0 (by omega), e 1 (by omega), e 2 (by omega), e 3 (by omega)]
  rfl

theorem But.setNewD {b g : Nat} {w w' : World} (h : But b w w') (hg : w.heap.size ≤ g) (i : Nat) (u : Value) : But b w (w'.setCell ⟨g, i, none⟩ u) := by
  have hb := but_set w' g i u
  exact ⟨hb.os.trans h.os, hb.tape.trans h.tape, hb.output.trans h.output, Nat.le_trans h.size hb.size, fun k hk hne => (hb.block k (Nat.lt_of_lt_of_le hk h.size) (by intro e; injection e with e; omega)).trans (h.block k hk hne)⟩
/-- What the Reader's Sum answers, from place k on. -/
def RSumEnd (l : List UInt8) (k : Nat) (v : Value) (b : Nat) (w : World) (e : Ending) (w' : World) : Prop :=
  But b w w' ∧
    if k + 4 ≤ l.length then e = .returned (.int .u32 (Fr.val ((l.drop k).take 4))) ∧ RdAt w' b v (k + 4) else BytesPanic e
theorem rsumEnd_no {l : List UInt8} {k : Nat} {v : Value} {b : Nat} {w w' : World} {e : Ending} (h : ¬ k + 4 ≤ l.length) (hb : But b w w') (he : BytesPanic e) : RSumEnd l k v b w e w' := by
  unfold RSumEnd
  rw [if_neg h]
  exact ⟨hb, he⟩

set_option maxHeartbeats 2000000 in
set_option maxRecDepth 1000000 in
theorem frSum_any (F : Nat → Prop) (v : Value) (l : List UInt8) (b k : Nat) (w : World) (hr : RdAt w b v k) (hv : BytesAt F w v l) (hF : ¬ F b) (hFw : ¬ F w.heap.size) (hk : k ≤ l.length) (hl : l.length ≤ 1000000) :
    Calls Try.prog 37 #[.pointer (some ⟨b, 0, none⟩)] w (RSumEnd l k v b w) := by
  have hbl : b < w.heap.size := lt_of_block hr
  have HR := hid hr
  have HV := hid hv
  clear hr hv
  have hst : (w.alloc (.cells #[.int .u8 0, .int .u8 0, .int .u8 0, .int .u8 0] 94)).heap[w.heap.size]? = some (.cells (fourOf (fun i => l.getD (k + i) 0) 0) 94 (0, 0)) := heap_alloc_new w _
  have HST := hid hst
  clear hst
  go_enter Try.func37, Try.ntmps37
  go_wp2
  go_loopw [5] (fun i wr => ∃ j : Nat, j ≤ 4 ∧ k + j ≤ l.length ∧ i = .int .i64 j ∧ Hid (wr.heap[w.heap.size]? = some (.cells (fourOf (fun i => l.getD (k + i) 0) j) 94 (0, 0)) ∧ RdAt wr b v (k + j) ∧ BytesAt F wr v l ∧ But b w wr)) (fun i _ => 4 - (intOf i).toNat)
  case atStart => exact ⟨0, by omega, by omega, rfl, HST.out, (Below.heap_alloc _ _ _ hbl).trans HR.out, HV.out.below ((Below.refl _ _).alloc (Nat.le_refl _) _), But.ofBelow ((Below.refl _ _).alloc (Nat.le_refl _) _)⟩
  case round =>
    obtain ⟨j, hj4, hjl, rfl, hr⟩ := hrel
    by_cases hj : j < 4
    · have hj' : (j : Int) < 4 := by omega
      have hj0 : (0 : Int) ≤ (j : Int) := by omega
      have HN := hid (fNext_any F v l b (k + j) wr hr.out.2.1 hr.out.2.2.1 hjl hl)
      by_cases hlt : k + j < l.length
      · have hg : l.getD (k + j) 0 = l[k + j] := by simp [hlt]
        have HG := hid hg
        clear hg
        go_wp2_with (go_at_call 44; refine HN.out.mono ?_; rintro e w1 ⟨hb1, he⟩; rw [dif_pos hlt] at he; obtain ⟨rfl, hr1⟩ := he; have hk1 := (hb1.block w.heap.size (lt_of_block hr.out.1) (by intro e; injection e with e; omega)).trans hr.out.1; obtain ⟨hp1, hc1, hz1⟩ := four_put hj hk1; rw [HG.out] at hp1; have H1 := hid (And.intro hp1 (And.intro hr1 hb1)); clear hp1 hr1 hb1 hk1)
        refine ⟨⟨j + 1, by omega, by omega, by go_num, H1.out.1, ?_, ?_, ?_⟩, by simp [intOf]; omega⟩
        · exact ((but_set w1 w.heap.size j _).block b (lt_of_block H1.out.2.1) (by intro e; injection e with e; omega)).trans H1.out.2.1
        · exact (hr.out.2.2.1.but H1.out.2.2 hF).but (but_set w1 w.heap.size j _) hFw
        · exact But.setNewD (hr.out.2.2.2.trans H1.out.2.2) (Nat.le_refl _) j _
      · have hno : ¬ k + 4 ≤ l.length := by omega
        go_wp2_with (go_at_call 44; refine HN.out.mono ?_; rintro e w1 ⟨hb1, he⟩; rw [dif_neg hlt] at he; obtain ⟨n1, s1, rfl⟩ := he; have H1 := hid hb1; clear hb1)
        exact ⟨rfl, rsumEnd_no hno (hr.out.2.2.2.trans H1.out) ⟨_, _, rfl⟩⟩
    · obtain rfl : j = 4 := by omega
      go_wp2_with (go_at_call 29; refine (fSumIn_any _ _ _ _ (four_row hr.out.1)).mono ?_; rintro e w1 ⟨rfl, hw⟩; have hw' := hw.symm; subst hw')
      go_ret
      unfold RSumEnd
      rw [if_pos hjl, ← take_four hjl]
      exact ⟨hr.out.2.2.2, rfl, hr.out.2.1⟩

/-- What readDelta makes of the bytes (its kind in front of them). -/
def DlEnd (F : Nat → Prop) (l : List UInt8) (v : Value) (b : Nat) (w : World) (e : Ending) (w' : World) : Prop :=
  But b w w' ∧
    match Fr.inside (l.drop 1) with
    | some (s, p, q, m) => ∃ am n cm, e = .returned (dval (Fr.val s) p q (.slice (some am) n cm)) ∧ RdAt w' b v l.length ∧ BytesAt F w' (.slice (some am) n cm) m
    | none => BytesPanic e

theorem dlEnd_no {F : Nat → Prop} {l : List UInt8} {v : Value} {b : Nat} {w w' : World} {e : Ending} (h : Fr.inside (l.drop 1) = none) (hb : But b w w') (he : BytesPanic e) : DlEnd F l v b w e w' := by
  unfold DlEnd
  rw [h]
  exact ⟨hb, he⟩
theorem BytesAt.isSlice {F : Nat → Prop} {w : World} {v : Value} {l : List UInt8} (h : BytesAt F w v l) (hn : v ≠ .slice none 0 0) : ∃ a n c, v = .slice (some a) n c := by
  rcases h.2 with ⟨he, _⟩ | ⟨b, o, cap, he, _⟩
  · exact absurd he hn
  · exact ⟨_, _, _, he⟩
theorem drop_suffix {l x r : List UInt8} {k : Nat} (h : l.drop k = x ++ r) : l.drop (l.length - r.length) = r ∧ r.length ≤ l.length := by
  have h1 := congrArg List.length h
  rw [List.length_drop, List.length_append] at h1
  refine ⟨?_, by omega⟩
  have h2 : l = (l.take k ++ x) ++ r := by rw [List.append_assoc, ← h, List.take_append_drop]
  have h3 : l.length - r.length = (l.take k ++ x).length := by
    have := congrArg List.length h2
    rw [List.length_append] at this
    omega
  have h4 : ((l.take k ++ x) ++ r).drop (l.take k ++ x).length = r := List.drop_left
  rw [← h2, ← h3] at h4
  exact h4

/-- What readDelta sees: its reader, its bytes, its two blocks. -/
structure DlCtx (F : Nat → Prop) (v : Value) (l : List UInt8) (b : Nat) (w W : World) (k : Nat) (x y z u : Value) : Prop where
  rd : RdAt W b v k
  row : BytesAt F W v l
  but : But b w W
  out : W.heap[w.heap.size]? = some (.cells #[.int .u32 0, .int .u64 0, .int .u64 0, .slice none 0 0] 49 (0, 0))
  d : W.heap[w.heap.size + 1]? = some (.cells #[x, y, z, u] 49 (0, 0))
theorem DlCtx.on {F : Nat → Prop} {v : Value} {l : List UInt8} {b : Nat} {w W W' : World} {k k' : Nat} {x y z u : Value} (h : DlCtx F v l b w W k x y z u) (hF : ¬ F b) (hbl : b < w.heap.size) (hb : But b W W') (hr : RdAt W' b v k') : DlCtx F v l b w W' k' x y z u :=
  ⟨hr, h.row.but hb hF, h.but.trans hb, (hb.block _ (lt_of_block h.out) (by intro e; injection e with e; omega)).trans h.out, (hb.block _ (lt_of_block h.d) (by intro e; injection e with e; omega)).trans h.d⟩
theorem DlCtx.put {F : Nat → Prop} {v : Value} {l : List UInt8} {b : Nat} {w W : World} {k : Nat} {x y z u x' y' z' u' : Value} (h : DlCtx F v l b w W k x y z u) (hF1 : ¬ F (w.heap.size + 1)) (hbl : b < w.heap.size) (i : Nat) (n : Value) (hd : (W.setCell ⟨w.heap.size + 1, i, none⟩ n).heap[w.heap.size + 1]? = some (.cells #[x', y', z', u'] 49 (0, 0))) : DlCtx F v l b w (W.setCell ⟨w.heap.size + 1, i, none⟩ n) k x' y' z' u' :=
  ⟨((but_set W (w.heap.size + 1) i n).block b (lt_of_block h.rd) (by intro e; injection e with e; omega)).trans h.rd, h.row.but (but_set W (w.heap.size + 1) i n) hF1, But.setNewD h.but (by omega) i n, ((but_set W (w.heap.size + 1) i n).block _ (lt_of_block h.out) (by intro e; injection e with e; omega)).trans h.out, hd⟩

set_option maxHeartbeats 2000000 in
set_option maxRecDepth 1000000 in
theorem readDelta_any (F : Nat → Prop) (v : Value) (l : List UInt8) (b : Nat) (w : World) (hr : RdAt w b v 1) (hv : BytesAt F w v l) (hF : ∀ i, F i → i < b) (h1 : 1 ≤ l.length) (hl : l.length ≤ 1000000) :
    Calls Try.prog 26 #[.pointer (some ⟨b, 0, none⟩)] w (DlEnd F l v b w) := by
  have hbl : b < w.heap.size := lt_of_block hr
  have hFb : ¬ F b := fun h => Nat.lt_irrefl _ (hF b h)
  have hFn : ∀ i, b ≤ i → ¬ F i := fun i hi h => by have := hF i h; omega
  have hbel : Below w.heap.size w ((w.alloc (.cells #[.int .u32 0, .int .u64 0, .int .u64 0, .slice none 0 0] 49)).alloc (.cells #[.int .u32 0, .int .u64 0, .int .u64 0, .slice none 0 0] 49)) := ((Below.refl _ _).alloc (Nat.le_refl _) _).alloc (by simp) _
  have hC0 : DlCtx F v l b w ((w.alloc (.cells #[.int .u32 0, .int .u64 0, .int .u64 0, .slice none 0 0] 49)).alloc (.cells #[.int .u32 0, .int .u64 0, .int .u64 0, .slice none 0 0] 49)) 1 (.int .u32 0) (.int .u64 0) (.int .u64 0) (.slice none 0 0) :=
    ⟨(hbel.block b hbl).trans hr, hv.below hbel, But.ofBelow hbel, (Below.heap_alloc _ _ _ (by simp)).trans (heap_alloc_new w _), new_at (by simp)⟩
  have hs2 : ((w.alloc (.cells #[.int .u32 0, .int .u64 0, .int .u64 0, .slice none 0 0] 49)).alloc (.cells #[.int .u32 0, .int .u64 0, .int .u64 0, .slice none 0 0] 49)).heap.size = w.heap.size + 2 := by simp
  have HSum := hid (frSum_any F v l b 1 _ hC0.rd hC0.row hFb (by rw [hs2]; exact hFn _ (by omega)) h1 hl)
  have HC0 := hid hC0
  clear hr hv hC0 hbel hs2
  obtain ⟨S1, hS1⟩ : ∃ S1, Fr.val ((l.drop 1).take 4) = S1 := ⟨_, rfl⟩
  have HS1 := hid hS1
  clear hS1
  by_cases h5 : 1 + 4 ≤ l.length
  · have hin : Fr.inside (l.drop 1) = match Fr.rd (l.drop 5) with
        | none => none
        | some (p, r) =>
          match Fr.rd r with
          | none => none
          | some (q, r') => some ((l.drop 1).take 4, p, q, r') := by
      unfold Fr.inside
      rw [if_neg (by rw [List.length_drop]; omega), List.drop_drop]
      rfl
    cases hx : Fr.rd (l.drop 5) with
    | none =>
      rw [hx] at hin
      have HX := hid (And.intro hx hin)
      clear hx hin
      go_enter Try.func26, Try.ntmps26
      go_wp2_with (first
        | (go_at_call 37; refine HSum.out.mono ?_; rintro e w1 ⟨hb1, he⟩; rw [if_pos h5, HS1.out] at he; obtain ⟨rfl, hr1⟩ := he; have hc1 := HC0.out.on hFb hbl hb1 hr1; obtain ⟨x0, x1, x2, x3, xz⟩ := blk_four hc1.d; have H1 := hid (hc1.put (hFn _ (by omega)) hbl 0 (.int .u32 S1) (set_four hc1.d _).1); clear hb1 hr1 hc1)
        | (go_at_call 38; refine (fNumber_any F v l b 5 _ H1.out.rd H1.out.row hFb (by omega) hl).mono ?_; rintro e w2 ⟨hb2, he⟩; rw [HX.out.1] at he; obtain ⟨n2, s2, rfl⟩ := he; have H2 := hid (H1.out.but.trans hb2); clear hb2))
      exact ⟨rfl, dlEnd_no HX.out.2 H2.out ⟨_, _, rfl⟩⟩
    | some pr =>
      obtain ⟨p, r⟩ := pr
      obtain ⟨hb5, hp64⟩ := Fr.rd_back hx
      obtain ⟨hdr, hrl⟩ := drop_suffix hb5
      rw [hx] at hin
      simp only [] at hin
      cases hy : Fr.rd r with
      | none =>
        rw [hy] at hin
        have HX := hid (And.intro hx (And.intro hy (And.intro hin hdr)))
        clear hx hin hy hdr
        go_enter Try.func26, Try.ntmps26
        go_wp2_with (first
          | (go_at_call 37; refine HSum.out.mono ?_; rintro e w1 ⟨hb1, he⟩; rw [if_pos h5, HS1.out] at he; obtain ⟨rfl, hr1⟩ := he; have hc1 := HC0.out.on hFb hbl hb1 hr1; obtain ⟨x0, x1, x2, x3, xz⟩ := blk_four hc1.d; have H1 := hid (hc1.put (hFn _ (by omega)) hbl 0 (.int .u32 S1) (set_four hc1.d _).1); clear hb1 hr1 hc1)
          | (go_at_call 38; refine (fNumber_any F v l b 5 _ H1.out.rd H1.out.row hFb (by omega) hl).mono ?_; rintro e w2 ⟨hb2, he⟩; rw [HX.out.1] at he; obtain ⟨rfl, hr2⟩ := he; have hc2 := H1.out.on hFb hbl hb2 hr2; obtain ⟨y0, y1, y2, y3, yz⟩ := blk_four hc2.d; have H2 := hid (hc2.put (hFn _ (by omega)) hbl 1 (.int .u64 p) (set_four hc2.d _).2.1); clear hb2 hr2 hc2 H1)
          | (go_at_call 38; refine (fNumber_any F v l b _ _ H2.out.rd H2.out.row hFb (by omega) hl).mono ?_; rintro e w3 ⟨hb3, he⟩; rw [HX.out.2.2.2, HX.out.2.1] at he; obtain ⟨n3, s3, rfl⟩ := he; have H3 := hid (H2.out.but.trans hb3); clear hb3))
        exact ⟨rfl, dlEnd_no HX.out.2.2.1 H3.out ⟨_, _, rfl⟩⟩
      | some qr =>
        obtain ⟨q, r'⟩ := qr
        obtain ⟨hbr, hq64⟩ := Fr.rd_back hy
        obtain ⟨hdr', hrl'⟩ := drop_suffix (hdr.trans hbr)
        rw [hy] at hin
        simp only [] at hin
        have HX := hid (And.intro hx (And.intro hy (And.intro hin (And.intro hdr hdr'))))
        clear hx hin hy hdr hdr'
        go_enter Try.func26, Try.ntmps26
        go_wp2_with (first
          | (go_at_call 37; refine HSum.out.mono ?_; rintro e w1 ⟨hb1, he⟩; rw [if_pos h5, HS1.out] at he; obtain ⟨rfl, hr1⟩ := he; have hc1 := HC0.out.on hFb hbl hb1 hr1; obtain ⟨x0, x1, x2, x3, xz⟩ := blk_four hc1.d; have H1 := hid (hc1.put (hFn _ (by omega)) hbl 0 (.int .u32 S1) (set_four hc1.d _).1); clear hb1 hr1 hc1)
          | (go_at_call 38; refine (fNumber_any F v l b 5 _ H1.out.rd H1.out.row hFb (by omega) hl).mono ?_; rintro e w2 ⟨hb2, he⟩; rw [HX.out.1] at he; obtain ⟨rfl, hr2⟩ := he; have hc2 := H1.out.on hFb hbl hb2 hr2; obtain ⟨y0, y1, y2, y3, yz⟩ := blk_four hc2.d; have H2 := hid (hc2.put (hFn _ (by omega)) hbl 1 (.int .u64 p) (set_four hc2.d _).2.1); clear hb2 hr2 hc2 H1)
          | (go_at_call 38; refine (fNumber_any F v l b _ _ H2.out.rd H2.out.row hFb (by omega) hl).mono ?_; rintro e w3 ⟨hb3, he⟩; rw [HX.out.2.2.2.1, HX.out.2.1] at he; obtain ⟨rfl, hr3⟩ := he; have hc3 := H2.out.on hFb hbl hb3 hr3; obtain ⟨z0, z1, z2, z3, zz⟩ := blk_four hc3.d; have H3 := hid (hc3.put (hFn _ (by omega)) hbl 2 (.int .u64 q) (set_four hc3.d _).2.2.1); clear hb3 hr3 hc3 H2)
          | (go_at_call 24; refine (fRest_any F v l b _ _ H3.out.rd H3.out.row (by omega) (by omega)).mono ?_; rintro e w4 ⟨r4, rfl, hn4, hv4, hr4, hb4⟩; have hv5 := hv4 hFb; obtain ⟨a4, n4, c4, rfl⟩ := hv5.isSlice hn4; have hc4 := H3.out.on hFb hbl hb4 hr4; obtain ⟨u0, u1, u2, u3, uz⟩ := blk_four hc4.d; have hc5 := hc4.put (hFn _ (by omega)) hbl 3 (.slice (some a4) n4 c4) (set_four hc4.d _).2.2.2; obtain ⟨t0, t1, t2, t3, tz⟩ := blk_four hc5.d; obtain ⟨o0, o1, o2, o3, oz⟩ := blk_four hc5.out; have H4 := hid (And.intro hc5 (hv5.but (but_set w4 (w.heap.size + 1) 3 (.slice (some a4) n4 c4)) (hFn _ (by omega)))); clear hn4 hv4 hr4 hb4 hv5 hc4 hc5 H3))
        have hp4 := put_four H4.out.1.out (.int .u32 S1) (.int .u64 p) (.int .u64 q) (.slice (some a4) n4 c4)
        obtain ⟨g0, g1, g2, g3, -⟩ := blk_four hp4
        have hbt := (((but_set (w4.setCell ⟨w.heap.size + 1, 3, none⟩ (.slice (some a4) n4 c4)) w.heap.size 0 (.int .u32 S1)).trans (but_set _ w.heap.size 1 (.int .u64 p))).trans (but_set _ w.heap.size 2 (.int .u64 q))).trans (but_set _ w.heap.size 3 (.slice (some a4) n4 c4))
        have hbw := But.setNewD (But.setNewD (But.setNewD (But.setNewD H4.out.1.but (Nat.le_refl _) 0 (.int .u32 S1)) (Nat.le_refl _) 1 (.int .u64 p)) (Nat.le_refl _) 2 (.int .u64 q)) (Nat.le_refl _) 3 (.slice (some a4) n4 c4)
        refine bodyPost_ret (v := .agg #[.int .u32 S1, .int .u64 p, .int .u64 q, .slice (some a4) n4 c4]) (by simp [results, Try.results26, go_sem, g0, g1, g2, g3]) rfl ?_
        unfold DlEnd
        rw [HX.out.2.2.1]
        have hrow := H4.out.2
        rw [HX.out.2.2.2.2] at hrow
        refine ⟨hbw, a4, n4, c4, ?_, (hbt.block b (lt_of_block H4.out.1.rd) (by intro e; injection e with e; omega)).trans H4.out.1.rd, hrow.but hbt (hFn _ (by omega))⟩
        rw [HS1.out]
        rfl
  · have hno : Fr.inside (l.drop 1) = none := by
      unfold Fr.inside
      rw [if_pos (by rw [List.length_drop]; omega)]
    have HX := hid hno
    clear hno
    go_enter Try.func26, Try.ntmps26
    go_wp2_with (go_at_call 37; refine HSum.out.mono ?_; rintro e w1 ⟨hb1, he⟩; rw [if_neg h5] at he; obtain ⟨n1, s1, rfl⟩ := he; have H1 := hid (HC0.out.but.trans hb1); clear hb1)
    exact ⟨rfl, dlEnd_no HX.out H1.out ⟨_, _, rfl⟩⟩

/-- What opened answers. -/
def OpenedEnd (F : Nat → Prop) (l : List UInt8) (w : World) (e : Ending) (w' : World) : Prop :=
  Below w.heap.size w w' ∧
    match Fr.parts l with
    | some (s, p, q, m) => ∃ am n cm, e = .returned (.tuple #[dval (Fr.val s) p q (.slice (some am) n cm), .nilIface]) ∧ BytesAt F w' (.slice (some am) n cm) m
    | none => ∃ (n : Int) (s : ByteArray), e = .returned (.tuple #[dval 0 0 0 (.slice none 0 0), .iface 79 (.agg #[.int .i64 n, .string s])])
theorem take_kind {l c : List UInt8} {kind : UInt8} (h : Fr.sound l kind = some c) : (l.take (l.length - 4)).drop 1 = c := by
  unfold Fr.sound at h
  split at h
  · exact Option.some.inj h
  · cases h
theorem BytesAt.bel {F : Nat → Prop} {w W W' : World} {v : Value} {l : List UInt8} (h : BytesAt F W v l) (hF : ∀ i, F i → i < w.heap.size) (h1 : Below w.heap.size w W) (h2 : Below w.heap.size w W') : BytesAt F W' v l := by
  obtain ⟨hl, hr⟩ := h
  refine ⟨hl, ?_⟩
  rcases hr with h0 | ⟨b, o, cap, he, hFb, hb, hn, hc, r⟩
  · exact Or.inl h0
  · have hbw := hF b hFb
    refine Or.inr ⟨b, o, cap, he, hFb, Nat.lt_of_lt_of_le hbw h2.size, hn, hc, fun j u hj => ?_⟩
    rw [World.cell?_of_block (a := ⟨b, o + j, none⟩) ((h2.block b hbw).trans (h1.block b hbw).symm)]
    exact r j u hj

set_option maxHeartbeats 2000000 in
set_option maxRecDepth 1000000 in
theorem readDD_any (F : Nat → Prop) (v : Value) (l : List UInt8) (w : World) (hv : BytesAt F w v l) (hF : ∀ i, F i → i < w.heap.size) (hl : l.length ≤ 1000000) :
    Calls Try.prog 25 #[.int .u8 68, v, .func (.func 26) #[] #[]] w (OpenedEnd F l w) := by
  have e68 : (((68 : UInt8).toNat : Nat) : Int) = 68 := by decide
  cases hs : Fr.sound l 68 with
  | none =>
    have hp : Fr.parts l = none := by rw [Fr.parts_inside, hs]
    have h := readD_unsound F v l 68 (.func (.func 26) #[] #[]) w hv hl hs
    rw [e68] at h
    refine h.mono ?_
    rintro e w' ⟨n, s, rfl, hb⟩
    unfold OpenedEnd
    rw [hp]
    exact ⟨hb, n, s, rfl⟩
  | some c =>
    have h5 := sound_five hs
    have hc := take_kind hs
    have hlt : (l.take (l.length - 4)).length = l.length - 4 := by rw [List.length_take]; omega
    have hp : Fr.parts l = Fr.inside c := by rw [Fr.parts_inside, hs]
    cases hi : Fr.inside c with
    | none =>
      have h := readD_panics F v l c 68 w hv hl hs (fun W v' hb hr hv' => (readDelta_any F v' _ (w.heap.size + 2) W hr hv' (fun i h => by have := hF i h; omega) (by omega) (by omega)).mono fun e w' he => by
        obtain ⟨h1, h2⟩ := he
        rw [hc, hi] at h2
        exact ⟨h2, h1.belowB (Nat.le_refl _) (Nat.le_of_lt (lt_of_block hr))⟩)
      rw [e68] at h
      refine h.mono ?_
      rintro e w' ⟨n, s, rfl, hb⟩
      unfold OpenedEnd
      rw [hp, hi]
      exact ⟨hb, n, s, rfl⟩
    | some x =>
      obtain ⟨s, p, q, m⟩ := x
      have h := readD_ok F v l c 68 w hv hl hs (Fr.val s) p q (fun vm W => BytesAt F W vm m) (fun W v' hb hr hv' => (readDelta_any F v' _ (w.heap.size + 2) W hr hv' (fun i h => by have := hF i h; omega) (by omega) (by omega)).mono fun e w' he => by
        obtain ⟨h1, h2⟩ := he
        rw [hc, hi] at h2
        obtain ⟨am, n, cm, h3, h4, h5⟩ := h2
        rw [hlt] at h4
        exact ⟨am, n, cm, h3, h4, h1.belowB (Nat.le_refl _) (Nat.le_of_lt (lt_of_block hr)), h5⟩)
      rw [e68] at h
      refine h.mono ?_
      rintro e w' ⟨am, n, cm, w2, rfl, h1, h2, h3⟩
      unfold OpenedEnd
      rw [hp, hi]
      exact ⟨h3, am, n, cm, rfl, h1.bel hF h2 h3⟩

end Go.Proofs.Ytfldcmdhneegmaa
