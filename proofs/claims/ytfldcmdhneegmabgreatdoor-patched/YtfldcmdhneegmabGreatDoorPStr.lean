import Derived.Test.YtfldcmdhneegmabGreatDoorBld
import Derived.Test.YtfldcmdhneegmabGreatDoorZ27
import Derived.Test.YtfldcmdhneegmabGreatDoorZ36
import Derived.Sort.Grow

/-
  (Pattern).String.
-/
namespace Go.Proofs.YtfldcmdhneegmabGreatDoor
open Go.RowKit Go.Lib

/-- The k-th step's two cells. -/
theorem own_step {w : World} {base g cap : Nat} {l : List (Int × Bool)} (h : w.ownsRow base 155 2 (.slice (some ⟨g, 0, none⟩) l.length cap) l.length (stepCells l)) (k : Nat) (hk : k < l.length) :
    w.cell? ⟨g, k * 2, none⟩ = some (.int .i32 l[k].1) ∧ w.cell? ⟨g, k * 2 + 1, none⟩ = some (.bool l[k].2) := by
  have e : ∀ (l : List (Int × Bool)) (k : Nat) (hk : k < l.length), (stepCells l)[k * 2]? = some (.int .i32 l[k].1) ∧ (stepCells l)[k * 2 + 1]? = some (.bool l[k].2) := by
    intro l
    induction l with
    | nil => intro k hk; simp at hk
    | cons x r ih =>
      intro k hk
      cases k with
      | zero => exact ⟨rfl, rfl⟩
      | succ k =>
        have := ih k (by simpa using hk)
        have e1 : (k + 1) * 2 = k * 2 + 1 + 1 := by omega
        rw [e1]
        exact this
  exact ⟨(h.cellAt (k * 2) (by omega)).trans (e l k hk).1, (h.cellAt (k * 2 + 1) (by omega)).trans (e l k hk).2⟩

theorem cells_step (x : Int × Bool) : byteCells (Pl.stepText x) = runeCells x.1 ++ ((if x.2 then [.int .u8 43] else []) ++ [.int .u8 32]) := by
  unfold Pl.stepText
  rw [byteCells_append, byteCells_encodeRune, byteCells_append]
  cases x.2 <;> rfl

/-- What String's loop carries: N: the heap's size when the call began; N: p's own box, N + 1: the builder. -/
structure SRel (l : List (Int × Bool)) (win : Int) (v : Value) (w wr : World) (k : Nat) : Prop where
  bld : IsBuilderF 153 5 (w.heap.size + 1) (w.heap.size + 1) (byteCells (Pl.stepsText (l.take k))) wr
  bel : Below (w.heap.size + 1) (w.alloc (.cells #[v, .int .i64 win] 75)) wr
  le : w.heap.size + 1 ≤ wr.heap.size

theorem srel_start (l : List (Int × Bool)) (win : Int) (v : Value) (w : World) : SRel l win v w ((w.alloc (.cells #[v, .int .i64 win] 75)).alloc (.cells #[.pointer none, .slice none 0 0] 153)) 0 := by
  refine ⟨?_, (Below.refl _ _).alloc (by simp) _, by simp⟩
  have := IsBuilderF.of (fresh_isBuilder 153 5 (w.alloc (.cells #[v, .int .i64 win] 75)))
  simpa [Pl.stepsText, byteCells] using this

theorem SRel.old {l : List (Int × Bool)} {win : Int} {v : Value} {w wr : World} {k : Nat} (h : SRel l win v w wr k) : Below w.heap.size w wr :=
  ((Below.refl _ w).alloc (Nat.le_refl _) _).trans (h.bel.mono (by omega))
theorem SRel.box {l : List (Int × Bool)} {win : Int} {v : Value} {w wr : World} {k : Nat} (h : SRel l win v w wr k) : wr.heap[w.heap.size]? = some (.cells #[v, .int .i64 win] 75 (0, 0)) := by
  rw [h.bel.block _ (by omega)]
  exact heap_alloc_new w _

/-- The block of a round's own step variable, behind a call of the builder's. -/
theorem step_kept {b : Nat} {w W1 : World} {x y : Value} (hk : OthersKept 5 (some b) (w.alloc (.cells #[x, y] 155)) W1) (hb : b < w.heap.size) : W1.heap[w.heap.size]? = some (.cells #[x, y] 155 (0, 0)) :=
  hk w.heap.size _ (heap_alloc_new w _) (fun e => by have := Option.some.inj e; omega) (fun c fz e => by
    have := Obj.cells.inj e
    exact absurd this.2.1 (by decide))

theorem bld_grow {T e : TypeId} {B b : Nat} {bs : List Value} {w : World} (h : IsBuilderF T e B b bs w) (n : Nat) (os : Array Obj) : IsBuilderF T e B b bs (Go.Sort.grow (w.drewN n) os) := by
  have key : ∀ p, BuilderAtF T e B b p bs w → BuilderAtF T e B b p bs (Go.Sort.grow (w.drewN n) os) := by
    intro p hp
    obtain ⟨hB, v, hb, hown, hne⟩ := hp
    have hh : ∀ k, k < w.heap.size → (Go.Sort.grow (w.drewN n) os).heap[k]? = w.heap[k]? := fun k hk => Go.Sort.heap_grow_old (w.drewN n) os hk
    refine ⟨hB, v, by rw [hh b (lt_of_block hb)]; exact hb, ⟨hown.1, ?_⟩, hne⟩
    rcases hown.2 with h2 | ⟨g, cap, cur, fz, hv, hg, hgg, r⟩
    · exact .inl h2
    · exact .inr ⟨g, cap, cur, fz, hv, hg, by rw [hh g (lt_of_block hgg)]; exact hgg, r⟩
  exact h.elim (fun x => .inl (key _ x)) (fun x => .inr (key _ x))
theorem below_grow {B : Nat} {a w : World} (h : Below B a w) (hB : B ≤ w.heap.size) (n : Nat) (os : Array Obj) : Below B a (Go.Sort.grow (w.drewN n) os) :=
  h.trans ⟨rfl, rfl, rfl, by simp [Go.Sort.grow, World.drewN], fun k hk => Go.Sort.heap_grow_old (w.drewN n) os (Nat.lt_of_lt_of_le hk hB)⟩

/-- strconv's table of powers of ten. -/
def Pow10 (w : World) : Prop := TabIs Tryz.prog w "internal/strconv.uint64pow10" .u64 pow10Tab

set_option maxHeartbeats 4000000 in
set_option maxRecDepth 1000000 in
theorem pString_any (l : List (Int × Bool)) (win : Int) (v : Value) (base : Nat) (w : World) (hf : Pl.Fine l win) (hown : w.ownsRow base 155 2 v l.length (stepCells l)) (hT : Pow10 w) :
    Calls Tryz.prog 29 #[.agg #[v, .int .i64 win]] w fun e w' => e = .returned (.string ⟨(Pl.text l win).toArray⟩) ∧ Below w.heap.size w w' := by
  obtain ⟨hne, h4, hw0, hw9, hlt⟩ := hf
  obtain ⟨g, cap, rfl⟩ : ∃ g cap, v = .slice (some ⟨g, 0, none⟩) l.length cap := by
    rcases hown.2 with ⟨_, h0⟩ | ⟨g, cap, cur, hv, _⟩
    · exact absurd (List.length_eq_zero_iff.1 h0) hne
    · exact ⟨g, cap, hv⟩
  have hgl : g < w.heap.size := (hown.lt g rfl).2
  have HO := hid hown
  have HT := hid hT
  have HB := hid hlt
  clear hown hT hlt
  have hn1 : 1 ≤ l.length := List.length_pos_iff.2 hne
  go_enter Tryz.func29, Tryz.ntmps29
  go_wp2
  go_loopw [9] (fun i wr => ∃ k : Nat, k ≤ l.length ∧ i = .int .i64 k ∧ Hid (SRel l win (.slice (some ⟨g, 0, none⟩) l.length cap) w wr k)) (fun i _ => l.length - (intOf i).toNat)
  case atStart => exact ⟨0, Nat.zero_le _, rfl, srel_start _ _ _ _⟩
  case round =>
    obtain ⟨k, hk, rfl, hr⟩ := hrel
    by_cases hlt : k < l.length
    · obtain ⟨s0, s1⟩ := own_step HO.out k hlt
      have q0 : wr.cell? ⟨g, k * 2, none⟩ = some (.int .i32 l[k].1) := (hr.out.old.cell (by exact hgl)).trans s0
      have q1 : wr.cell? ⟨g, k * 2 + 1, none⟩ = some (.bool l[k].2) := (hr.out.old.cell (by exact hgl)).trans s1
      clear s0 s1
      have hsz := hr.out.le
      have hbb : w.heap.size + 1 < wr.heap.size := by
        rcases hr.out.bld with ⟨_, _, hb, _⟩ | ⟨_, _, hb, _⟩ <;> exact lt_of_block hb
      have hlen : (byteCells (Pl.stepsText (l.take k))).length ≤ 24 := by
        rw [byteCells_length]
        have := Pl.stepsText_length (l.take k)
        have : (l.take k).length ≤ 4 := Nat.le_trans (List.length_take_le _ _) (by omega)
        omega
      have hval := (HB.out l[k] (List.getElem_mem hlt)).2
      have hlo : -2147483648 ≤ l[k].1 := by rcases hval with h | h <;> omega
      have hhi : l[k].1 ≤ 2147483647 := by rcases hval with h | h <;> omega
      have hbel0 : Below (w.heap.size + 1) wr (wr.alloc (.cells #[.int .i32 l[k].1, .bool l[k].2] 155)) := (Below.refl _ _).alloc hsz _
      have HB0 := hid hbel0
      clear hbel0 hval
      have HW := hid (writeRune_k (w.heap.size + 1) (w.heap.size + 1) _ l[k].1 hlo hhi _ (hr.out.bld.alloc (.cells #[.int .i32 l[k].1, .bool l[k].2] 155)) (by omega) (by simp; omega))
      cases hm : l[k].2
      · rw [hm] at q1 HW HB0
        have HM := hid hm
        clear hm
        go_wp2_with (go_at_call 70; refine HW.out.mono ?_)
        rintro e W1 ⟨rfl, h1, b1, k1⟩
        have sk := step_kept k1 (by omega)
        have sc : W1.cell? ⟨wr.heap.size, 1, none⟩ = some (.bool false) := (res_cells sk).2.1
        have hs1 := b1.size
        have HW2 := hid (writeByte_k (w.heap.size + 1) (w.heap.size + 1) _ 32 W1 (.inr h1) (by simp; have := runeCells_le l[k].1; omega) (by simp at hs1; omega))
        have H1 := hid b1
        clear h1 b1 k1 sk
        go_wp2_with (go_at_call 71; refine HW2.out.mono ?_)
        rintro e W2 ⟨rfl, h2, b2, k2⟩
        have H2 := hid (And.intro h2 b2)
        clear h2 b2 k2
        go_wp2
        go_roundw
        case rel =>
          refine ⟨k + 1, by omega, by go_num, ?_⟩
          have hs2 := H2.out.2.size
          refine ⟨?_, hr.out.bel.trans (HB0.out.trans (H1.out.trans H2.out.2)), by simp at hs1; omega⟩
          rw [Pl.take_snoc l k hlt, Pl.stepsText_snoc, byteCells_append, cells_step, HM.out]
          refine .inr ?_
          have := H2.out.1
          simpa using this
        case measure => simp [intOf]; omega
      · rw [hm] at q1 HW HB0
        have HM := hid hm
        clear hm
        go_wp2_with (go_at_call 70; refine HW.out.mono ?_)
        rintro e W1 ⟨rfl, h1, b1, k1⟩
        have sk := step_kept k1 (by omega)
        have sc : W1.cell? ⟨wr.heap.size, 1, none⟩ = some (.bool true) := (res_cells sk).2.1
        have hs1 := b1.size
        have HW2 := hid (writeByte_k (w.heap.size + 1) (w.heap.size + 1) _ 43 W1 (.inr h1) (by simp; have := runeCells_le l[k].1; omega) (by simp at hs1; omega))
        have H1 := hid b1
        clear h1 b1 k1 sk
        go_wp2_with (go_at_call 71; refine HW2.out.mono ?_)
        rintro e W2 ⟨rfl, h2, b2, k2⟩
        have hs2 := b2.size
        have HW3 := hid (writeByte_k (w.heap.size + 1) (w.heap.size + 1) _ 32 W2 (.inr h2) (by simp; have := runeCells_le l[k].1; omega) (by simp at hs1; omega))
        have H2 := hid b2
        clear h2 b2 k2
        go_wp2_with (go_at_call 71; refine HW3.out.mono ?_)
        rintro e W3 ⟨rfl, h3, b3, k3⟩
        have H3 := hid (And.intro h3 b3)
        clear h3 b3 k3
        go_wp2
        go_roundw
        case rel =>
          refine ⟨k + 1, by omega, by go_num, ?_⟩
          have hs3 := H3.out.2.size
          refine ⟨?_, hr.out.bel.trans (HB0.out.trans (H1.out.trans (H2.out.trans H3.out.2))), by simp at hs1; omega⟩
          rw [Pl.take_snoc l k hlt, Pl.stepsText_snoc, byteCells_append, cells_step, HM.out]
          refine .inr ?_
          have := H3.out.1
          simpa using this
        case measure => simp [intOf]; omega
    · obtain rfl : k = l.length := by omega
      have hsz := hr.out.le
      have hbld := hr.out.bld
      rw [List.take_length] at hbld
      have hlen : (byteCells (Pl.stepsText l)).length ≤ 24 := by
        rw [byteCells_length]
        have := Pl.stepsText_length l
        omega
      have hbx := hr.out.box
      have hlt0 := lt_of_block hbx
      have HW := hid (writeString_k (w.heap.size + 1) (w.heap.size + 1) _ ⟨#[47, 32]⟩ wr hbld (by simp [ByteArray.size]; omega) hsz)
      clear hbld
      go_wp2_with (go_at_call 72; refine HW.out.mono ?_)
      rintro e W1 ⟨rfl, h1, b1, k1⟩
      have hbx1 : W1.heap[w.heap.size]? = some (.cells #[.slice (some ⟨g, 0, none⟩) l.length cap, .int .i64 win] 75 (0, 0)) := by rw [b1.block _ (by omega)]; exact hbx
      have bc := (res_cells hbx1).2.1
      have hold : Below w.heap.size w W1 := hr.out.old.trans (b1.mono (by omega))
      have hs1 := b1.size
      have HF := hid (Tryz.strconv_FormatInt_10 win (by omega) (by omega) W1 (TabIs_below (g := 1) (by kernel_rfl) HT.out hold))
      have H1 := hid (And.intro h1 b1)
      clear h1 b1 k1 hbx1 hold
      go_wp2_with (go_at_call 73; refine HF.out.mono ?_)
      rintro e W2 ⟨rfl, n, os, hW2⟩
      have h2 := bld_grow (.inr H1.out.1) n os
      have b2 := below_grow H1.out.2 (by omega) n os
      rw [← hW2] at h2 b2
      clear hW2
      have hs2 := b2.size
      have hl4 := Pl.itoa_length win hw0 hw9
      have HW3 := hid (writeString_k (w.heap.size + 1) (w.heap.size + 1) _ ⟨(itoa win).toArray⟩ W2 h2 (by simp [ByteArray.size, strCells_length]; omega) (by omega))
      have H2 := hid b2
      clear h2 b2
      go_wp2_with (go_at_call 72; refine HW3.out.mono ?_)
      rintro e W3 ⟨rfl, h3, b3, k3⟩
      have hs3 := b3.size
      have e3 : byteCells (Pl.stepsText l) ++ strCells ⟨#[47, 32]⟩ ++ strCells ⟨(itoa win).toArray⟩ = byteCells (Pl.text l win) := by
        simp [Pl.text, byteCells, strCells]
      rw [e3] at h3
      have HW4 := hid (Tryz.Builder_String_any_k (w.heap.size + 1) (w.heap.size + 1) (Pl.text l win) W3 (.inr h3) (by omega))
      have H3 := hid b3
      clear h3 b3 k3 e3
      go_wp2_with (go_at_call 74; refine HW4.out.mono ?_)
      rintro e W4 ⟨rfl, _, b4, _⟩
      have H4 := hid b4
      clear b4
      go_wp2
      go_ret
      exact ⟨rfl, hr.out.old.trans ((H2.out.trans (H3.out.trans H4.out)).mono (by omega))⟩

end Go.Proofs.YtfldcmdhneegmabGreatDoor
