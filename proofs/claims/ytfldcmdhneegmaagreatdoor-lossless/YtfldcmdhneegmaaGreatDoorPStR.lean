import Derived.Test.YtfldcmdhneegmaaGreatDoorZ33
import Derived.Test.YtfldcmdhneegmaaGreatDoorZ12

/-
  Pattern's String, of steps that are read.
-/
namespace Go.Proofs.YtfldcmdhneegmaaGreatDoor
open Go.RowKit Go.Lib

theorem steps_get {F : Nat → Prop} {w : World} {g o n cap : Nat} {l : List (Int × Bool)} (h : StepsAt F w (.slice (some ⟨g, o, none⟩) n cap) l) (k : Nat) (hk : k < l.length) : w.cell? ⟨g, o + k * 2, none⟩ = some (.int .i32 l[k].1) ∧ w.cell? ⟨g, o + k * 2 + 1, none⟩ = some (.bool l[k].2) := by
  obtain ⟨b, o', he, -, c0, c1⟩ := h.get hk
  cases he
  exact ⟨c0, c1⟩
set_option maxHeartbeats 4000000 in
set_option maxRecDepth 1000000 in
theorem pString_row (F : Nat → Prop) (l : List (Int × Bool)) (win : Int) (v : Value) (w : World) (hf : Pl.Fine l win) (hown : StepsAt F w v l) (hT : Pow10 w) :
    Calls Tryz.prog 77 #[.agg #[v, .int .i64 win]] w fun e w' => e = .returned (.string ⟨(Pl.text l win).toArray⟩) ∧ Below w.heap.size w w' := by
  obtain ⟨hne, h4, hw0, hw9, hlt⟩ := hf
  obtain ⟨g, o, cap, rfl, hgl⟩ : ∃ g o cap, v = .slice (some ⟨g, o, none⟩) l.length cap ∧ g < w.heap.size := by
    rcases hown.2 with ⟨_, h0⟩ | ⟨g, o, cap, hv, -, hg, -⟩
    · exact absurd (List.length_eq_zero_iff.1 h0) hne
    · exact ⟨g, o, cap, hv, hg⟩
  have HO := hid hown
  have HT := hid hT
  have HB := hid hlt
  clear hown hT hlt
  have hn1 : 1 ≤ l.length := List.length_pos_iff.2 hne
  go_enter Tryz.func77, Tryz.ntmps77
  go_wp2
  go_loopw [9] (fun i wr => ∃ k : Nat, k ≤ l.length ∧ i = .int .i64 k ∧ Hid (SRel l win (.slice (some ⟨g, o, none⟩) l.length cap) w wr k)) (fun i _ => l.length - (intOf i).toNat)
  case atStart => exact ⟨0, Nat.zero_le _, rfl, srel_start _ _ _ _⟩
  case round =>
    obtain ⟨k, hk, rfl, hr⟩ := hrel
    by_cases hlt : k < l.length
    · obtain ⟨s0, s1⟩ := steps_get HO.out k hlt
      have q0 : wr.cell? ⟨g, o + k * 2, none⟩ = some (.int .i32 l[k].1) := (hr.out.old.cell (by exact hgl)).trans s0
      have q1 : wr.cell? ⟨g, o + k * 2 + 1, none⟩ = some (.bool l[k].2) := (hr.out.old.cell (by exact hgl)).trans s1
      clear s0 s1
      have hsz := hr.out.le
      have hbb : w.heap.size + 1 < wr.heap.size := by
        rcases hr.out.bld with ⟨_, _, hb, _⟩ | ⟨_, _, hb, _⟩ <;> exact lt_of_block hb
      have hlen : (byteCells (Pl.stepsText (l.take k))).length ≤ 24 := by
        rw [byteCells_length]
        have := Pl.stepsText_length (l.take k)
        have : (l.take k).length ≤ 4 := Nat.le_trans (List.length_take_le _ _) (by omega)
        omega
      have hval := (HB.out l[k] (List.getElem_mem hlt)).2
      have hlo : -2147483648 ≤ l[k].1 := by rcases hval with h | h <;> omega
      have hhi : l[k].1 ≤ 2147483647 := by rcases hval with h | h <;> omega
      have hbel0 : Below (w.heap.size + 1) wr (wr.alloc (.cells #[.int .i32 l[k].1, .bool l[k].2] 225)) := (Below.refl _ _).alloc hsz _
      have HB0 := hid hbel0
      clear hbel0 hval
      have HW := hid (writeRune_k (w.heap.size + 1) (w.heap.size + 1) _ l[k].1 hlo hhi _ (hr.out.bld.alloc (.cells #[.int .i32 l[k].1, .bool l[k].2] 225)) (by omega) (by simp; omega))
      cases hm : l[k].2
      · rw [hm] at q1 HW HB0
        have HM := hid hm
        clear hm
        go_wp2_with (go_at_call 120; refine HW.out.mono ?_)
        rintro e W1 ⟨rfl, h1, b1, k1⟩
        have sk := step_kept k1 (by omega)
        have sc : W1.cell? ⟨wr.heap.size, 1, none⟩ = some (.bool false) := (res_cells sk).2.1
        have hs1 := b1.size
        have HW2 := hid (writeByte_k (w.heap.size + 1) (w.heap.size + 1) _ 32 W1 (.inr h1) (by simp; have := runeCells_le l[k].1; omega) (by simp at hs1; omega))
        have H1 := hid b1
        clear h1 b1 k1 sk
        go_wp2_with (go_at_call 121; refine HW2.out.mono ?_)
        rintro e W2 ⟨rfl, h2, b2, k2⟩
        have H2 := hid (And.intro h2 b2)
        clear h2 b2 k2
        go_wp2
        go_roundw
        case rel =>
          refine ⟨k + 1, by omega, by go_num, ?_⟩
          have hs2 := H2.out.2.size
          refine ⟨?_, hr.out.bel.trans (HB0.out.trans (H1.out.trans H2.out.2)), by simp at hs1; omega⟩
          rw [Pl.take_snoc l k hlt, Pl.stepsText_snoc, byteCells_append, cells_step, HM.out]
          refine .inr ?_
          have := H2.out.1
          simpa using this
        case measure => simp [intOf]; omega
      · rw [hm] at q1 HW HB0
        have HM := hid hm
        clear hm
        go_wp2_with (go_at_call 120; refine HW.out.mono ?_)
        rintro e W1 ⟨rfl, h1, b1, k1⟩
        have sk := step_kept k1 (by omega)
        have sc : W1.cell? ⟨wr.heap.size, 1, none⟩ = some (.bool true) := (res_cells sk).2.1
        have hs1 := b1.size
        have HW2 := hid (writeByte_k (w.heap.size + 1) (w.heap.size + 1) _ 43 W1 (.inr h1) (by simp; have := runeCells_le l[k].1; omega) (by simp at hs1; omega))
        have H1 := hid b1
        clear h1 b1 k1 sk
        go_wp2_with (go_at_call 121; refine HW2.out.mono ?_)
        rintro e W2 ⟨rfl, h2, b2, k2⟩
        have hs2 := b2.size
        have HW3 := hid (writeByte_k (w.heap.size + 1) (w.heap.size + 1) _ 32 W2 (.inr h2) (by simp; have := runeCells_le l[k].1; omega) (by simp at hs1; omega))
        have H2 := hid b2
        clear h2 b2 k2
        go_wp2_with (go_at_call 121; refine HW3.out.mono ?_)
        rintro e W3 ⟨rfl, h3, b3, k3⟩
        have H3 := hid (And.intro h3 b3)
        clear h3 b3 k3
        go_wp2
        go_roundw
        case rel =>
          refine ⟨k + 1, by omega, by go_num, ?_⟩
          have hs3 := H3.out.2.size
          refine ⟨?_, hr.out.bel.trans (HB0.out.trans (H1.out.trans (H2.out.trans H3.out.2))), by simp at hs1; omega⟩
          rw [Pl.take_snoc l k hlt, Pl.stepsText_snoc, byteCells_append, cells_step, HM.out]
          refine .inr ?_
          have := H3.out.1
          simpa using this
        case measure => simp [intOf]; omega
    · obtain rfl : k = l.length := by omega
      have hsz := hr.out.le
      have hbld := hr.out.bld
      rw [List.take_length] at hbld
      have hlen : (byteCells (Pl.stepsText l)).length ≤ 24 := by
        rw [byteCells_length]
        have := Pl.stepsText_length l
        omega
      have hbx := hr.out.box
      have hlt0 := lt_of_block hbx
      have HW := hid (writeString_k (w.heap.size + 1) (w.heap.size + 1) _ ⟨#[47, 32]⟩ wr hbld (by simp [ByteArray.size]; omega) hsz)
      clear hbld
      go_wp2_with (go_at_call 122; refine HW.out.mono ?_)
      rintro e W1 ⟨rfl, h1, b1, k1⟩
      have hbx1 : W1.heap[w.heap.size]? = some (.cells #[.slice (some ⟨g, o, none⟩) l.length cap, .int .i64 win] 154 (0, 0)) := by rw [b1.block _ (by omega)]; exact hbx
      have bc := (res_cells hbx1).2.1
      have hold : Below w.heap.size w W1 := hr.out.old.trans (b1.mono (by omega))
      have hs1 := b1.size
      have HF := hid (Tryz.strconv_FormatInt_10 win (by omega) (by omega) W1 (TabIs_below (g := 5) (by kernel_rfl) HT.out hold))
      have H1 := hid (And.intro h1 b1)
      clear h1 b1 k1 hbx1 hold
      go_wp2_with (go_at_call 123; refine HF.out.mono ?_)
      rintro e W2 ⟨rfl, n, os, hW2⟩
      have h2 := bld_grow (.inr H1.out.1) n os
      have b2 := below_grow H1.out.2 (by omega) n os
      rw [← hW2] at h2 b2
      clear hW2
      have hs2 := b2.size
      have hl4 := Pl.itoa_length win hw0 hw9
      have HW3 := hid (writeString_k (w.heap.size + 1) (w.heap.size + 1) _ ⟨(itoa win).toArray⟩ W2 h2 (by simp [ByteArray.size, strCells_length]; omega) (by omega))
      have H2 := hid b2
      clear h2 b2
      go_wp2_with (go_at_call 122; refine HW3.out.mono ?_)
      rintro e W3 ⟨rfl, h3, b3, k3⟩
      have hs3 := b3.size
      have e3 : byteCells (Pl.stepsText l) ++ strCells ⟨#[47, 32]⟩ ++ strCells ⟨(itoa win).toArray⟩ = byteCells (Pl.text l win) := by
        simp [Pl.text, byteCells, strCells]
      rw [e3] at h3
      have HW4 := hid (Tryz.Builder_String_any_k (w.heap.size + 1) (w.heap.size + 1) (Pl.text l win) W3 (.inr h3) (by omega))
      have H3 := hid b3
      clear h3 b3 k3 e3
      go_wp2_with (go_at_call 124; refine HW4.out.mono ?_)
      rintro e W4 ⟨rfl, _, b4, _⟩
      have H4 := hid b4
      clear b4
      go_wp2
      go_ret
      exact ⟨rfl, hr.out.old.trans ((H2.out.trans (H3.out.trans H4.out)).mono (by omega))⟩

end Go.Proofs.YtfldcmdhneegmaaGreatDoor
