import Derived.Test.YtfldcmdhneegmaaGreatDoorZ71
import Derived.Test.YtfldcmdhneegmaaGreatDoorPStR
import Derived.Test.YtfldcmdhneegmaaGreatDoorZ70

/-
  package engine's Load: WALKS, 7: readPattern.
-/
namespace Go.Proofs.YtfldcmdhneegmaaGreatDoor.Fr
/-- A text. -/
def rdT (l : List UInt8) : Option (List UInt8 × List UInt8) :=
  match rd l with
  | some (n, r) => if n ≤ r.length then some (r.take n, r.drop n) else none
  | none => none
theorem Left.drop {l r : List UInt8} (h : Left l r) (n : Nat) : Left l (r.drop n) := by
  have := Left.of_drop l ((l.length - r.length) + n)
  rw [← List.drop_drop, h.1] at this
  exact this
theorem rdT_some {l t r : List UInt8} (h : rdT l = some (t, r)) : ∃ n q, rd l = some (n, q) ∧ n ≤ q.length ∧ t = q.take n ∧ r = q.drop n := by
  unfold rdT at h
  cases hx : rd l with
  | none => rw [hx] at h; cases h
  | some x =>
    obtain ⟨n, q⟩ := x
    rw [hx] at h
    simp only [] at h
    split at h
    · simp only [Option.some.injEq, Prod.mk.injEq] at h
      exact ⟨n, q, rfl, by assumption, h.1.symm, h.2.symm⟩
    · cases h
theorem Left.rdT {l r t r2 : List UInt8} (h : Left l r) (h2 : Fr.rdT r = some (t, r2)) : Left l r2 := by
  obtain ⟨n, q, h3, -, -, rfl⟩ := rdT_some h2
  exact (h.rd h3).drop n
/-- A pattern: a text that is canonical. -/
def rdPat (l : List UInt8) : Option ((List (Int × Bool) × Int) × List UInt8) :=
  match rdT l with
  | none => none
  | some (t, r) =>
    if 60 < t.length then none else
      match Pl.parse ⟨t.toArray⟩ with
      | none => none
      | some (st, win) => if Pl.text st win = t then some ((st, win), r) else none
end Go.Proofs.YtfldcmdhneegmaaGreatDoor.Fr
namespace Go.Proofs.YtfldcmdhneegmaaGreatDoor
open Go.RowKit Go.Lib

theorem TextEnd.rend {l : List UInt8} {k b : Nat} {v : Value} {w w' : World} {e : Ending} (h : TextEnd l k v b w e w') : REnd (Fr.rdT (l.drop k)) (fun t => .string ⟨t.toArray⟩) l.length v b w e w' := by
  obtain ⟨h1, h2⟩ := h
  refine ⟨h1, ?_⟩
  unfold Fr.rdT
  cases hx : Fr.rd (l.drop k) with
  | none => rw [hx] at h2; exact h2
  | some x =>
    obtain ⟨n, r⟩ := x
    rw [hx] at h2
    simp only [] at h2 ⊢
    have hrl := (rd_suffix hx).1
    by_cases hle : n ≤ r.length
    · rw [if_pos hle] at h2 ⊢
      refine ⟨h2.1, ?_⟩
      rw [List.length_drop, show l.length - (r.length - n) = l.length - r.length + n by omega]
      exact h2.2
    · rw [if_neg hle] at h2 ⊢; exact h2
theorem fText_left (F : Nat → Prop) (a : Addr) (cap : Nat) (l r : List UInt8) (b : Nat) (w : World) (hr : RdAt w b (.slice (some a) l.length cap) (l.length - r.length)) (hv : BytesAt F w (.slice (some a) l.length cap) l) (hF : ¬ F b) (hle : Fr.Left l r) (hl : l.length ≤ 1000000) :
    Calls Tryz.prog 184 #[.pointer (some ⟨b, 0, none⟩)] w (REnd (Fr.rdT r) (fun t => .string ⟨t.toArray⟩) l.length (.slice (some a) l.length cap) b w) := by
  have := fText_any F a cap l b (l.length - r.length) w hr hv hF (by omega) hl
  refine this.mono fun e w' h => ?_
  have h' := h.rend
  rw [hle.1] at h'
  exact h'

/-- What readPattern answers. -/
def PatEnd (r : List UInt8) (L : Nat) (v : Value) (b : Nat) (w : World) (e : Ending) (w' : World) : Prop :=
  But b w w' ∧
    match Fr.rdPat r with
    | some ((st, win), r') => ∃ ao cap, e = .returned (.agg #[.slice ao st.length cap, .int .i64 win]) ∧ RdAt w' b v (L - r'.length) ∧ StepsAt (fun x => w.heap.size ≤ x) w' (.slice ao st.length cap) st
    | none => BytesPanic e


set_option maxHeartbeats 4000000 in
set_option maxRecDepth 1000000 in
theorem readPattern_any (F : Nat → Prop) (a : Addr) (cap : Nat) (l r : List UInt8) (b : Nat) (w : World) (hr : RdAt w b (.slice (some a) l.length cap) (l.length - r.length)) (hv : BytesAt F w (.slice (some a) l.length cap) l) (hF : ¬ F b) (hle : Fr.Left l r) (hl : l.length ≤ 1000000) (hL : ∀ W, But b w W → Letters W) (hT : ∀ W, But b w W → Pow10 W) :
    Calls Tryz.prog 114 #[.pointer (some ⟨b, 0, none⟩)] w (PatEnd r l.length (.slice (some a) l.length cap) b w) := by
  have hltB : b < w.heap.size := lt_of_block hr
  have hal : Below w.heap.size w (w.alloc (.cells #[.slice none 0 0, .int .i64 0] 154)) := (Below.refl _ _).alloc (Nat.le_refl _) _
  have HC := hid (fText_left F a cap l r b (w.alloc (.cells #[.slice none 0 0, .int .i64 0] 154)) (hr.below hal) (hv.below hal) hF hle hl)
  have H0 := hid (And.intro (But.ofBelow (b := b) hal) (heap_alloc_new w (.cells #[.slice none 0 0, .int .i64 0] 154)))
  have HSz : Hid ((w.alloc (.cells #[.slice none 0 0, .int .i64 0] 154)).heap.size = w.heap.size + 1) := by simp [Hid]
  have HLT := hid (And.intro hL hT)
  have HLE := hid hle
  clear hr hv hle hL hT hal
  go_enter Tryz.func114, Tryz.ntmps114
  go_wp2_with (go_at_call 184; fail)
  refine HC.out.mono ?_
  rintro e w1 ⟨hb0, he⟩
  have hb := H0.out.1.trans hb0
  have hres : w1.heap[w.heap.size]? = some (.cells #[.slice none 0 0, .int .i64 0] 154 (0, 0)) := (hb0.block _ (by rw [HSz.out]; omega) (by simp; omega)).trans H0.out.2
  have hs1 : w.heap.size < w1.heap.size := lt_of_block hres
  clear hb0
  cases x1 : Fr.rdT r with
  | none =>
    rw [x1] at he
    obtain ⟨n1, s1, rfl⟩ := he
    have HE : Hid (Fr.rdPat r = none) := by show _ = _; unfold Fr.rdPat; rw [x1]
    have HB := hid hb
    clear hb x1 hres
    go_wp2
    refine ⟨rfl, HB.out, ?_⟩
    rw [HE.out]
    exact ⟨_, _, rfl⟩
  | some p1 =>
    obtain ⟨t, r1⟩ := p1
    rw [x1] at he
    obtain ⟨rfl, hr1⟩ := he
    have htl : t.length ≤ 1000000 := by
      obtain ⟨n, q, h3, -, h5, -⟩ := Fr.rdT_some x1
      have h6 := (HLE.out.rd h3).2
      rw [h5, List.length_take]
      omega
    have hsz : (ByteArray.mk t.toArray).size = t.length := by show t.toArray.size = _; simp
    have HB := hid (And.intro hb hr1)
    have HR := hid hres
    clear hres
    have X1 := hid x1
    clear hb hr1 x1
    by_cases h60 : 60 < t.length
    · have HE : Hid (Fr.rdPat r = none) := by show _ = _; unfold Fr.rdPat; rw [X1.out]; simp only []; rw [if_pos h60]
      have HP := hid (pParse_long ⟨t.toArray⟩ w1 (by omega) (by omega))
      clear h60 htl
      go_wp2_with (go_at_call 83; fail)
      refine HP.out.mono ?_
      rintro e w2 ⟨rfl, hb1⟩
      have hb := hb1.alloc hb1.size (.cells #[.slice none 0 0, .int .i64 0] 154)
      clear hb1
      have HB2 := hid (And.intro (HB.out.1.trans (But.ofBelow hb)) (HB.out.2.below hb).c1)
      have c1 := HB2.out.2
      clear hb
      go_wp2_with (go_at_call_of 113 (Value.bool false); fail)
      refine (fNeed_false b _ _ _ c1).mono ?_
      rintro e w3 ⟨rfl, hw⟩
      subst hw
      show _ ∧ _
      refine ⟨rfl, HB2.out.1, ?_⟩
      rw [HE.out]
      exact ⟨_, _, rfl⟩
    · have HP := hid (pParse_any ⟨t.toArray⟩ w1 (by omega) (HLT.out.1 _ HB.out.1))
      unfold ParseEnd at HP
      cases x2 : Pl.parse ⟨t.toArray⟩ with
      | none =>
        have HE : Hid (Fr.rdPat r = none) := by show _ = _; unfold Fr.rdPat; rw [X1.out]; simp only []; rw [if_neg h60, x2]
        rw [x2] at HP
        have HP' : Hid (Calls Tryz.prog 83 #[.string ⟨t.toArray⟩] w1 fun e w' => (∃ k : Int, e = .returned (.tuple #[.agg #[.slice none 0 0, .int .i64 0], .iface 238 (.agg #[.int .i64 k])])) ∧ Below w1.heap.size w1 w') := HP
        clear h60 htl HP x2
        go_wp2_with (go_at_call 83; fail)
        refine HP'.out.mono ?_
        rintro e w2 ⟨⟨k, rfl⟩, hb1⟩
        have hb := hb1.alloc hb1.size (.cells #[.slice none 0 0, .int .i64 0] 154)
        clear hb1
        have HB2 := hid (And.intro (HB.out.1.trans (But.ofBelow hb)) (HB.out.2.below hb).c1)
        have c1 := HB2.out.2
        clear hb
        go_wp2_with (go_at_call_of 113 (Value.bool false); fail)
        refine (fNeed_false b _ _ _ c1).mono ?_
        rintro e w3 ⟨rfl, hw⟩
        subst hw
        show _ ∧ _
        refine ⟨rfl, HB2.out.1, ?_⟩
        rw [HE.out]
        exact ⟨_, _, rfl⟩
      | some q =>
        obtain ⟨st, win⟩ := q
        have HFi := hid (Pl.fine_parse x2)
        have HE : Hid (Fr.rdPat r = if Pl.text st win = t then some ((st, win), r1) else none) := by show _ = _; unfold Fr.rdPat; rw [X1.out]; simp only []; rw [if_neg h60, x2]
        rw [x2] at HP
        have HP' : Hid (Calls Tryz.prog 83 #[.string ⟨t.toArray⟩] w1 fun e w' => ∃ ao cap, e = .returned (.tuple #[.agg #[.slice ao st.length cap, .int .i64 win], .nilIface]) ∧ w'.ownsRow w1.heap.size 225 2 (.slice ao st.length cap) st.length (stepCells st) ∧ Below w1.heap.size w1 w') := HP.out.mono fun e w' ⟨v, he, own1, b1⟩ => by
          obtain ⟨ao, cap, rfl⟩ := own_slice own1
          exact ⟨ao, cap, he, own1, b1⟩
        clear h60 htl HP x2
        go_wp2_with (go_at_call 83; fail)
        refine HP'.out.mono ?_
        rintro e w2 ⟨ao, cp, rfl, hown, hb1⟩
        have hb := hb1.alloc hb1.size (.cells #[.slice ao st.length cp, .int .i64 win] 154)
        have hst : StepsAt (fun x => w1.heap.size ≤ x) (w2.alloc (.cells #[.slice ao st.length cp, .int .i64 win] 154)) (.slice ao st.length cp) st := StepsAt.below (RowAt.ofOwn hown) ((Below.refl _ _).alloc (Nat.le_refl _) _)
        clear hb1
        have HB2 := hid (And.intro (HB.out.1.trans (But.ofBelow hb)) (And.intro (HB.out.2.below hb) hst))
        have HR2 := hid ((hb.block _ hs1).trans HR.out)
        clear hb hown hst
        have HS := hid (pString_row (fun x => w1.heap.size ≤ x) st win (.slice ao st.length cp) (w2.alloc (.cells #[.slice ao st.length cp, .int .i64 win] 154)) HFi.out HB2.out.2.2 (HLT.out.2 _ HB2.out.1))
        go_wp2_with (go_at_call_of 113 (Value.bool true); fail)
        refine (fNeed_true b _ _).mono ?_
        rintro e w3 ⟨rfl, hw⟩
        subst hw
        go_wp2_with (go_at_call 77; fail)
        refine HS.out.mono ?_
        rintro e w3 ⟨rfl, hb⟩
        have HB3 := hid (And.intro (HB2.out.1.trans (But.ofBelow hb)) (And.intro (HB2.out.2.1.below hb) (HB2.out.2.2.below hb)))
        have c1 := HB3.out.2.1.c1
        have hpb : w3.heap[w2.heap.size]? = some (.cells #[.slice ao st.length cp, .int .i64 win] 154 (0, 0)) := (hb.block _ (by simp)).trans (heap_alloc_new w2 _)
        obtain ⟨p0, p1, -, -⟩ := res_cells hpb
        clear hpb
        have HR3 := hid ((hb.block _ (lt_of_block HR2.out)).trans HR2.out)
        obtain ⟨d0, d1, f0, f1⟩ := res_cells HR3.out
        clear hb
        by_cases heq : Pl.text st win = t
        · have hq : (Pl.text st win == t) = true := by rw [heq]; exact beq_self_eq_true _
          have HQ := hid heq
          clear heq
          clear HP' HS HC H0 HSz HLT HLE hsz
          go_wp2_with (go_at_call_of 113 (Value.bool true); fail)
          refine (fNeed_true b _ _).mono ?_
          rintro e w4 ⟨rfl, hw⟩
          subst hw
          go_wp2
          have B2 := (blk_setF (blk_setF HR3.out (.slice ao st.length cp)).1 (.int .i64 win)).2
          obtain ⟨t0, t1, -, -⟩ := res_cells B2
          refine bodyPost_ret (v := .agg #[.slice ao st.length cp, .int .i64 win]) (by simp [results, Tryz.results114, go_sem, t0, t1]) rfl ?_
          refine ⟨(HB3.out.1.setNew 0 _ (Nat.le_refl _)).setNew 1 _ (Nat.le_refl _), ?_⟩
          rw [HE.out, if_pos HQ.out]
          refine ⟨ao, cp, rfl, (HB3.out.2.1.setNe 0 _ (by omega)).setNe 1 _ (by omega), ?_⟩
          have h5 : StepsAt (fun x => w1.heap.size ≤ x) ((w4.setCell ⟨w.heap.size, 0, none⟩ (.slice ao st.length cp)).setCell ⟨w.heap.size, 1, none⟩ (.int .i64 win)) (.slice ao st.length cp) st := RowAt.but (RowAt.but HB3.out.2.2 (but_set _ w.heap.size 0 _) (by omega)) (but_set _ w.heap.size 1 _) (by omega)
          exact RowAt.mono h5 (fun x _ hx => by omega)
        · have hq : (Pl.text st win == t) = false := beq_eq_false_iff_ne.2 heq
          have HQ := hid heq
          clear heq
          clear HP' HS HC H0 HSz HLT HLE hs1 hsz
          go_wp2_with (go_at_call_of 113 (Value.bool false); fail)
          refine (fNeed_false b _ _ _ c1).mono ?_
          rintro e w4 ⟨rfl, hw⟩
          subst hw
          show _ ∧ _
          refine ⟨rfl, HB3.out.1, ?_⟩
          rw [HE.out, if_neg HQ.out]
          exact ⟨_, _, rfl⟩

end Go.Proofs.YtfldcmdhneegmaaGreatDoor
