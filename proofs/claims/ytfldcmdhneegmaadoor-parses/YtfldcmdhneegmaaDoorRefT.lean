/-
  package spotterref's WALKS, 3: Text.
-/
import Derived.Test.YtfldcmdhneegmaaDoorRefX
namespace Go.Proofs.YtfldcmdhneegmaaDoor
open Go.RowKit Go.Lib

theorem encode_eq (c : Int) (hv : Pl.Valid c) : Utf8.encode c = ⟨(encodeRune c).toArray⟩ := by
  obtain ⟨n, rfl⟩ : ∃ n : Nat, c = n := ⟨c.toNat, by rcases hv with h | h <;> omega⟩
  unfold Pl.Valid at hv
  have hval : Utf8.valid (n : Int) = true := by
    unfold Utf8.valid
    simp
    omega
  unfold Utf8.encode
  rw [if_pos hval]
  simp only [Int.toNat_natCast]
  by_cases c1 : n < 128
  · rw [if_pos c1]
    unfold encodeRune
    rw [encodeRuneZ_one (by omega) (by omega)]
    rfl
  by_cases c2 : n < 2048
  · rw [if_neg c1, if_pos c2]
    unfold encodeRune
    rw [encodeRuneZ_two (by omega) (by omega)]
    simp only [List.map_cons, List.map_nil]
    rw [show ((192 + (n : Int) / 64)).toNat = 192 + n / 64 by omega, show ((128 + (n : Int) % 64)).toNat = 128 + n % 64 by omega]
  by_cases c3 : n < 65536
  · rw [if_neg c1, if_neg c2, if_pos c3]
    unfold encodeRune
    rw [encodeRuneZ_three (by omega)]
    simp only [List.map_cons, List.map_nil]
    rw [show ((224 + (n : Int) / 4096)).toNat = 224 + n / 4096 by omega, show ((128 + (n : Int) / 64 % 64)).toNat = 128 + n / 64 % 64 by omega, show ((128 + (n : Int) % 64)).toNat = 128 + n % 64 by omega]
  · rw [if_neg c1, if_neg c2, if_neg c3]
    unfold encodeRune
    rw [encodeRuneZ_four (by omega) (by omega)]
    simp only [List.map_cons, List.map_nil]
    rw [show ((240 + (n : Int) / 262144)).toNat = 240 + n / 262144 by omega, show ((128 + (n : Int) / 4096 % 64)).toNat = 128 + n / 4096 % 64 by omega, show ((128 + (n : Int) / 64 % 64)).toNat = 128 + n / 64 % 64 by omega, show ((128 + (n : Int) % 64)).toNat = 128 + n % 64 by omega]

theorem own_stepR {w : World} {base g cap : Nat} {l : List (Int × Bool)} (h : w.ownsRow base 53 2 (.slice (some ⟨g, 0, none⟩) l.length cap) l.length (stepCells l)) (k : Nat) (hk : k < l.length) :
    w.cell? ⟨g, k * 2, none⟩ = some (.int .i32 l[k].1) ∧ w.cell? ⟨g, k * 2 + 1, none⟩ = some (.bool l[k].2) := by
  have e : ∀ (l : List (Int × Bool)) (k : Nat) (hk : k < l.length), (stepCells l)[k * 2]? = some (.int .i32 l[k].1) ∧ (stepCells l)[k * 2 + 1]? = some (.bool l[k].2) := by
    intro l
    induction l with
    | nil => intro k hk; simp at hk
    | cons x r ih =>
      intro k hk
      cases k with
      | zero => exact ⟨rfl, rfl⟩
      | succ k =>
        have := ih k (by simpa using hk)
        have e1 : (k + 1) * 2 = k * 2 + 1 + 1 := by omega
        rw [e1]
        exact this
  exact ⟨(h.cellAt (k * 2) (by omega)).trans (e l k hk).1, (h.cellAt (k * 2 + 1) (by omega)).trans (e l k hk).2⟩

set_option maxHeartbeats 4000000 in
set_option maxRecDepth 1000000 in
theorem refText_any (l : List (Int × Bool)) (win : Int) (v : Value) (base b : Nat) (w : World) (hf : Pl.Fine l win) (hown : w.ownsRow base 53 2 v l.length (stepCells l)) (hb : w.heap[b]? = some (.cells #[v, .int .i64 win] 46 (0, 0))) :
    Calls Tryd.prog 9 #[.pointer (some ⟨b, 0, none⟩)] w fun e w' => e = .returned (.string ⟨(Pl.text l win).toArray⟩) ∧ Below w.heap.size w w' := by
  obtain ⟨hne, h4, hw0, hw9, hlt⟩ := hf
  obtain ⟨g, cap, rfl⟩ : ∃ g cap, v = .slice (some ⟨g, 0, none⟩) l.length cap := by
    rcases hown.2 with ⟨_, h0⟩ | ⟨g, cap, cur, hv, _⟩
    · exact absurd (List.length_eq_zero_iff.1 h0) hne
    · exact ⟨g, cap, hv⟩
  obtain ⟨b0, b1, _, _⟩ := res_cells hb
  have HO := hid hown
  have HB := hid hlt
  have HD := hid (digits_any win w hw0 hw9)
  clear hown hlt hb
  have hn1 : 1 ≤ l.length := List.length_pos_iff.2 hne
  go_enter Tryd.func9, Tryd.ntmps9
  go_wp2
  go_loop [3, 4] (fun s i => ∃ k : Nat, k ≤ l.length ∧ i = .int .i64 k ∧ s = .string ⟨(Pl.stepsText (l.take k)).toArray⟩) (fun _ i => l.length - (intOf i).toNat)
  case atStart => exact ⟨0, Nat.zero_le _, rfl, rfl⟩
  case round =>
    obtain ⟨k, hk, rfl, rfl⟩ := hrel
    have hlen : (Pl.stepsText (l.take k)).length ≤ 24 := by
      have h1 := Pl.stepsText_length (l.take k)
      have h2 : (l.take k).length ≤ 4 := Nat.le_trans (List.length_take_le _ _) (by omega)
      omega
    by_cases hlt : k < l.length
    · obtain ⟨s0, s1⟩ := own_stepR HO.out k hlt
      have hval := (HB.out l[k] (List.getElem_mem hlt)).2
      have henc := encode_eq l[k].1 hval
      have hel := (Pl.encodeRune_length l[k].1).2
      clear hval
      cases hm : l[k].2
      · rw [hm] at s1
        have HM := hid hm
        clear hm
        go_wp2
        go_round
        case rel =>
          refine ⟨k + 1, by omega, by go_num, ?_⟩
          rw [Pl.take_snoc l k hlt, Pl.stepsText_snoc]
          simp only [ByteArray.mk_append_mk]
          simp [Pl.stepText, HM.out]
        case measure => simp [intOf]; omega
      · rw [hm] at s1
        have HM := hid hm
        clear hm
        go_wp2
        go_round
        case rel =>
          refine ⟨k + 1, by omega, by go_num, ?_⟩
          rw [Pl.take_snoc l k hlt, Pl.stepsText_snoc]
          simp only [ByteArray.mk_append_mk]
          simp [Pl.stepText, HM.out]
        case measure => simp [intOf]; omega
    · obtain rfl : k = l.length := by omega
      have hl4 := Pl.decDigits_length win.toNat (by omega)
      rw [List.take_length] at hlen ⊢
      go_wp2_with (go_at_call 21; refine HD.out.mono ?_; rintro e w' ⟨rfl, hbb⟩; have HBB := hid hbb; clear hbb)
      go_ret
      refine ⟨?_, HBB.out⟩
      simp only [ByteArray.mk_append_mk]
      simp [Pl.text, Pl.itoa_eq win hw0]

end Go.Proofs.YtfldcmdhneegmaaDoor
