/-
  package pattern's Parse.
-/
import Derived.Test.YtfldcmdhneegmaaDoorRdD
import Derived.BigCall
namespace Go.Proofs.YtfldcmdhneegmaaDoor
open Go.RowKit Go.Lib

/-- unicode.IsLetter answers, in every world that has grown out of w, what Go's own tables say. -/
def Letters (w : World) : Prop := ∀ (c : Int) (W : World), -2147483648 ≤ c → c ≤ 2147483647 → Below w.heap.size w W →
  Calls Tryd.prog 19 #[.int .i32 c] W fun e w' => e = .returned (.bool (isLetterU c)) ∧ Below W.heap.size W w'

theorem width_pos (s : ByteArray) (pos : Nat) (h : pos < s.size) : 1 ≤ (Utf8.decode s pos).2 := by
  by_cases ha : (s[pos]'h).toNat < 128
  · rw [decode_ascii s pos h ha]
    exact Nat.le_refl _
  · exact (decode_high s pos h (by omega)).2

set_option maxHeartbeats 2000000 in
theorem pParse_long (s : ByteArray) (w : World) (hs : 60 < s.size) (hm : s.size ≤ 9223372036854775807) :
    Calls Tryd.prog 14 #[.string s] w fun e w' => e = .returned (.tuple #[.agg #[.slice none 0 0, .int .i64 0], .iface 67 (.agg #[.int .i64 s.size])]) ∧ Below w.heap.size w w' := by
  have h1 : (60 : Int) < (s.size : Int) := by omega
  go_enter Tryd.func14, Tryd.ntmps14
  go_wp2
  exact bodyPost_ret (v := .tuple #[.agg #[.slice none 0 0, .int .i64 0], .iface 67 (.agg #[.int .i64 s.size])]) (by simp [results, Tryd.results14, go_sem]) rfl ⟨rfl, (Below.refl _ _).alloc (Nat.le_refl _) _⟩

/-- What Parse of a text of at most 60 bytes gives. -/
def ParseEnd (s : ByteArray) (w : World) (e : Ending) (w' : World) : Prop :=
  match Pl.parse s with
  | none => (∃ k : Int, e = .returned (.tuple #[.agg #[.slice none 0 0, .int .i64 0], .iface 72 (.agg #[.int .i64 k])])) ∧ Below w.heap.size w w'
  | some (l, win) => ∃ v, e = .returned (.tuple #[.agg #[v, .int .i64 win], .nilIface]) ∧ w'.ownsRow w.heap.size 90 2 v l.length (stepCells l) ∧ Below w.heap.size w w'

theorem runFrom_end (s : ByteArray) (fuel pos : Nat) (st : Pl.St) (h : ¬ pos < s.size) : Pl.runFrom s fuel pos st = some st := by
  cases fuel with
  | zero => rfl
  | succ f => simp [Pl.runFrom, h]

/-- What the loop carries: N: the heap's size when the call began; N: the result's block, N + 1: the reader's, N + 2: the iterator's. -/
structure Rel (s : ByteArray) (w wr : World) (pos fuel : Nat) (st : Pl.St) (v : Value) : Prop where
  rd : Rd (w.heap.size + 1) (w.heap.size + 2) st v wr
  it : wr.heap[w.heap.size + 2]? = some (.stringIter s pos)
  res : wr.heap[w.heap.size]? = some (.cells #[.slice none 0 0, .int .i64 0] 37 (0, 0))
  bel : Below w.heap.size w wr
  ok : Pl.Ok st
  run : Pl.runFrom s s.size 0 Pl.St.init = Pl.runFrom s fuel pos st
  fu : s.size ≤ pos + fuel

theorem rel_start (s : ByteArray) (w : World) : Rel s w (((w.alloc (.cells #[.slice none 0 0, .int .i64 0] 37)).alloc (.cells #[.int .i64 0, .slice none 0 0, .int .i64 0] 70)).iter s 0) 0 s.size Pl.St.init (.slice none 0 0) := by
  have hit := World.iter_heap ((w.alloc (.cells #[.slice none 0 0, .int .i64 0] 37)).alloc (.cells #[.int .i64 0, .slice none 0 0, .int .i64 0] 70)) s 0
  have e2 : ((w.alloc (.cells #[.slice none 0 0, .int .i64 0] 37)).alloc (.cells #[.int .i64 0, .slice none 0 0, .int .i64 0] 70)).heap.size = w.heap.size + 2 := by simp
  refine ⟨⟨?_, World.ownsRow_nil _ _ _ _, by omega, ?_⟩, ?_, ?_, ?_, Pl.ok_init, rfl, by omega⟩
  · rw [show (((w.alloc (.cells #[.slice none 0 0, .int .i64 0] 37)).alloc (.cells #[.int .i64 0, .slice none 0 0, .int .i64 0] 70)).iter s 0).heap[w.heap.size + 1]? = ((w.alloc (.cells #[.slice none 0 0, .int .i64 0] 37)).alloc (.cells #[.int .i64 0, .slice none 0 0, .int .i64 0] 70)).heap[w.heap.size + 1]? from Below.heap_alloc _ _ _ (by simp)]
    have := heap_alloc_new (w.alloc (.cells #[.slice none 0 0, .int .i64 0] 37)) (.cells #[.int .i64 0, .slice none 0 0, .int .i64 0] 70)
    rw [show (w.alloc (.cells #[.slice none 0 0, .int .i64 0] 37)).heap.size = w.heap.size + 1 by simp] at this
    exact this
  · have : (((w.alloc (.cells #[.slice none 0 0, .int .i64 0] 37)).alloc (.cells #[.int .i64 0, .slice none 0 0, .int .i64 0] 70)).iter s 0).heap.size = w.heap.size + 3 := by simp [World.iter]
    omega
  · rw [e2] at hit; exact hit
  · rw [show (((w.alloc (.cells #[.slice none 0 0, .int .i64 0] 37)).alloc (.cells #[.int .i64 0, .slice none 0 0, .int .i64 0] 70)).iter s 0).heap[w.heap.size]? = ((w.alloc (.cells #[.slice none 0 0, .int .i64 0] 37)).alloc (.cells #[.int .i64 0, .slice none 0 0, .int .i64 0] 70)).heap[w.heap.size]? from Below.heap_alloc _ _ _ (by simp; omega), Below.heap_alloc _ _ _ (by simp)]
    exact heap_alloc_new w _
  · exact (((Below.refl _ w).alloc (Nat.le_refl _) _).alloc (by simp) _).alloc (by simp; omega) _

theorem Rd.iterAt {b base : Nat} {st : Pl.St} {v : Value} {w : World} (h : Rd b base st v w) {k : Nat} {s : ByteArray} {pos : Nat} (hk : w.heap[k]? = some (.stringIter s pos)) (pos' : Nat) : Rd b base st v (w.iterAt k s pos') := by
  have hkb : b ≠ k := by intro e; have := h.blk; rw [e, hk] at this; cases this
  refine ⟨(iterAt_other w k b s pos' hkb).trans h.blk, ⟨h.own.1, ?_⟩, h.lt, by rw [iterAt_size]; exact h.le⟩
  rcases h.own.2 with hn | ⟨g, cap, cur, hv, hbg, hg, rest⟩
  · exact .inl hn
  · have hkg : g ≠ k := by intro e; rw [e, hk] at hg; cases hg
    exact .inr ⟨g, cap, cur, hv, hbg, (iterAt_other w k g s pos' hkg).trans hg, rest⟩

/-- The round's step: what the relation gives ahead of 'take', and what it is behind it. -/
theorem rel_next {s : ByteArray} {w wr : World} {pos fuel : Nat} {st : Pl.St} {v : Value} (h : Rel s w wr pos fuel st v) :
    Rd (w.heap.size + 1) (w.heap.size + 2) st v (wr.iterAt (w.heap.size + 2) s (pos + (Utf8.decode s pos).2)) ∧ Below w.heap.size w (wr.iterAt (w.heap.size + 2) s (pos + (Utf8.decode s pos).2)) :=
  ⟨h.rd.iterAt h.it _, below_iterAt h.bel (by omega) s _⟩

theorem rel_some {s : ByteArray} {w wr W1 : World} {pos fuel : Nat} {st st' : Pl.St} {v v' : Value} (h : Rel s w wr pos fuel st v) (hp : pos < s.size) (e : Pl.take st (Utf8.decode s pos).1 = some st')
    (k : Kept (w.heap.size + 1) (wr.iterAt (w.heap.size + 2) s (pos + (Utf8.decode s pos).2)) W1) (r : Rd (w.heap.size + 1) (w.heap.size + 2) st' v' W1) : Rel s w W1 (pos + (Utf8.decode s pos).2) (fuel - 1) st' v' := by
  have hw := width_pos s pos hp
  have hf := h.fu
  refine ⟨r, ?_, ?_, (rel_next h).2.trans (k.below.mono (by omega)), Pl.ok_take h.ok (Pl.decode_valid s pos) e, ?_, by omega⟩
  · exact k.others.iter (iterAt_heap wr _ s pos _ h.it) (by omega)
  · rw [k.below.block _ (by omega), iterAt_other _ _ _ _ _ (by omega)]; exact h.res
  · rw [h.run]
    obtain ⟨f, rfl⟩ : ∃ f, fuel = f + 1 := ⟨fuel - 1, by omega⟩
    simp [Pl.runFrom, hp, e]

theorem rel_none {s : ByteArray} {w wr W1 : World} {pos fuel : Nat} {st : Pl.St} {v : Value} (h : Rel s w wr pos fuel st v) (hp : pos < s.size) (e : Pl.take st (Utf8.decode s pos).1 = none)
    (k : Kept (w.heap.size + 1) (wr.iterAt (w.heap.size + 2) s (pos + (Utf8.decode s pos).2)) W1) : Pl.parse s = none ∧ Below w.heap.size w W1 ∧ W1.heap[w.heap.size]? = some (.cells #[.slice none 0 0, .int .i64 0] 37 (0, 0)) := by
  have hf := h.fu
  refine ⟨?_, (rel_next h).2.trans (k.below.mono (by omega)), ?_⟩
  · have : Pl.runFrom s s.size 0 Pl.St.init = none := by
      rw [h.run]
      obtain ⟨f, rfl⟩ : ∃ f, fuel = f + 1 := ⟨fuel - 1, by omega⟩
      simp [Pl.runFrom, hp, e]
    simp [Pl.parse, this]
  · rw [k.below.block _ (by omega), iterAt_other _ _ _ _ _ (by omega)]; exact h.res

theorem res_cells {W : World} {b : Nat} {x y : Value} {t : TypeId} (h : W.heap[b]? = some (.cells #[x, y] t (0, 0))) : W.cell? ⟨b, 0, none⟩ = some x ∧ W.cell? ⟨b, 1, none⟩ = some y ∧ W.frozen? ⟨b, 0, none⟩ = false ∧ W.frozen? ⟨b, 1, none⟩ = false := by
  simp [World.cell?, World.frozen?, h]

set_option maxHeartbeats 4000000 in
set_option maxRecDepth 1000000 in
theorem pParse_any (s : ByteArray) (w : World) (hs : s.size ≤ 60) (hL : Letters w) :
    Calls Tryd.prog 14 #[.string s] w fun e w' => ParseEnd s w e w' := by
  have h1 : ¬ (60 : Int) < (s.size : Int) := by omega
  have HL := hid hL
  clear hL
  go_enter Tryd.func14, Tryd.ntmps14
  go_wp2
  go_loopw [] (fun wr => ∃ pos fuel st v, Hid (Rel s w wr pos fuel st v)) (fun wr => s.size - wr.iterPos (w.heap.size + 2))
  case atStart => exact ⟨0, s.size, _, _, rel_start s w⟩
  case round =>
    obtain ⟨pos, fuel, st, v, hr⟩ := hrel
    by_cases hp : pos < s.size
    · have hnx : ∀ ty, (Instr.next (.pointer (some ⟨w.heap.size + 2, 0, none⟩)) true ty).run Tryd.prog wr = _ := fun ty => Lib.run_next_any_at wr (w.heap.size + 2) s pos ty hr.out.it hp
      have hd1 := decode_le s pos
      have HC := hid (take_any (w.heap.size + 1) (w.heap.size + 2) st v (Utf8.decode s pos).1 _ (rel_next hr.out).1 hr.out.ok (by omega) (by omega) (HL.out _ _ (by omega) (by omega) (rel_next hr.out).2))
      generalize hq : Pl.take st (Utf8.decode s pos).1 = q at HC
      have HQ := hid hq
      clear hq
      cases q with
      | none =>
        go_wp2_with (go_at_call 28; refine HC.out.mono ?_; intro e w' ha; obtain ⟨hk, rfl⟩ := after_none ha; clear ha; obtain ⟨hc0, hc1, hf0, hf1⟩ := res_cells (rel_none hr.out hp HQ.out hk.out).2.2)
        have hfin := rel_none hr.out hp HQ.out hk.out
        refine bodyPost_ret (v := .tuple #[.agg #[.slice none 0 0, .int .i64 0], .iface 72 (.agg #[.int .i64 pos])]) (by simp [results, Tryd.results14, go_sem, hc0, hc1]) rfl ?_
        unfold ParseEnd
        rw [hfin.1]
        exact ⟨⟨_, rfl⟩, (hfin.2.1.setCell (by simp) _).setCell (by simp) _⟩
      | some st' =>
        go_wp2_with (go_at_call 28; refine HC.out.mono ?_; intro e w' ha; obtain ⟨hk, rfl⟩ := after_some ha; clear ha)
        obtain ⟨hk1, v', hk2⟩ := hk.out
        have hrel' := rel_some hr.out hp HQ.out hk1 hk2
        go_roundw
        case rel => exact ⟨_, _, _, _, hid hrel'⟩
        case measure =>
          have hw := width_pos s pos hp
          simp only [World.iterPos, hrel'.it, hr.out.it]
          omega
    · have hnx : ∀ ty, (Instr.next (.pointer (some ⟨w.heap.size + 2, 0, none⟩)) true ty).run Tryd.prog wr = _ := fun ty => Lib.run_next_end_at wr (w.heap.size + 2) s pos ty hr.out.it hp
      obtain ⟨ao, cap, rfl⟩ := own_slice hr.out.rd.own
      have HC := hid (complete_any (w.heap.size + 1) (w.heap.size + 2) st _ wr hr.out.rd)
      have hrun : Pl.runFrom s s.size 0 Pl.St.init = some st := by rw [hr.out.run]; exact runFrom_end s fuel pos st hp
      obtain ⟨hc0, hc1, hf0, hf1⟩ := res_cells hr.out.res
      have hd1 := hr.out.rd.c1
      have hd2 := hr.out.rd.c2
      have HRun := hid hrun
      clear hrun
      cases hcm : Pl.complete st
      · rw [hcm] at HC
        have HP : Hid (Pl.parse s = none) := by unfold Hid Pl.parse; rw [HRun.out]; simp [hcm]
        clear hcm
        go_wp2_with (go_at_call 29; refine HC.out.mono ?_; rintro e w' ⟨rfl, rfl⟩)
        refine bodyPost_ret (v := .tuple #[.agg #[.slice none 0 0, .int .i64 0], .iface 72 (.agg #[.int .i64 s.size])]) (by simp [results, Tryd.results14, go_sem, hc0, hc1]) rfl ?_
        unfold ParseEnd
        rw [HP.out]
        exact ⟨⟨_, rfl⟩, (hr.out.bel.setCell (by simp) _).setCell (by simp) _⟩
      · rw [hcm] at HC
        have HP : Hid (Pl.parse s = some (st.l, st.win)) := by unfold Hid Pl.parse; rw [HRun.out]; simp [hcm]
        clear hcm
        go_wp2_with (go_at_call 29; refine HC.out.mono ?_; rintro e w' ⟨rfl, rfl⟩)
        refine bodyPost_ret (v := .tuple #[.agg #[.slice ao st.l.length cap, .int .i64 st.win], .nilIface]) (by simp [results, Tryd.results14, go_sem, hc0, hc1]) rfl ?_
        unfold ParseEnd
        rw [HP.out]
        refine ⟨_, rfl, ?_, (hr.out.bel.setCell (by simp) _).setCell (by simp) _⟩
        have hown := hr.out.rd.own
        have h2 := ownsRow_setCell_below (ownsRow_setCell_below hown (a := ⟨w.heap.size, 0, none⟩) (by simp) (.slice ao st.l.length cap)) (a := ⟨w.heap.size, 1, none⟩) (by simp) (.int .i64 st.win)
        exact own_mono h2 (by omega)

end Go.Proofs.YtfldcmdhneegmaaDoor
