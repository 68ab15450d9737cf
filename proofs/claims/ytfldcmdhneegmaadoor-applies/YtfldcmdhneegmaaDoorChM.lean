/-
  THE LAW Applies: its walk.
-/
import Derived.Test.YtfldcmdhneegmaaDoorChL
import Derived.Test.YtfldcmdhneegmaaDoorDlB
import Derived.Test.YtfldcmdhneegmaaDoorChG
namespace Go.Proofs.YtfldcmdhneegmaaDoor
open Go.RowKit Go.Lib

theorem applyOf_len {a d : List UInt8} (h : (Fr.applyOf a d).2 = 0) : 0 < (Fr.applyOf a d).1.length := by
  unfold Fr.applyOf at h ⊢
  split at h
  · rename_i h1
    rw [if_pos h1]
    split at h
    · cases h
    · rename_i s p q m hp
      split at h
      · cases h
      · rename_i h2
        rw [if_neg h2]
        split at h
        · cases h
        · rename_i h3
          rw [if_neg h3]
          split at h
          · rename_i h4
            rw [if_pos h4]
            exact Nat.lt_of_lt_of_le (show 0 < 5 by decide) (sound_four h4.1)
          · cases h
  · cases h

theorem SApEnd.ok {D : List UInt8} {w w' : World} {e : Ending} (h : SApEnd (D, 0) w e w') : ∃ v, e = .returned (.tuple #[v, .int .i64 0]) ∧ w'.ownsRow w.heap.size 5 1 v D.length (byteCells D) ∧ Below w.heap.size w w' := by
  obtain ⟨h1, h2⟩ := h
  rcases h2 with ⟨-, v, he, ho⟩ | ⟨hc, -⟩
  · exact ⟨v, he, ho, h1⟩
  · exact absurd rfl hc
theorem SApEnd.no {D : List UInt8} {C : Int} {w w' : World} {e : Ending} (h : SApEnd (D, C) w e w') (hC : C ≠ 0) : e = .returned (.tuple #[.slice none 0 0, .int .i64 C]) ∧ D = [] ∧ Below w.heap.size w w' := by
  obtain ⟨h1, h2⟩ := h
  rcases h2 with ⟨h0, -⟩ | ⟨-, hD, he⟩
  · exact absurd h0 hC
  · exact ⟨he, hD, h1⟩

set_option maxHeartbeats 2000000 in
set_option maxRecDepth 1000000 in
theorem applies_any (s t : ByteArray) (w : World) (hE : ErrType w) (hs : s.size ≤ 9223372036854775807) (ht : t.size ≤ 9223372036854775807) :
    Calls Tryd.prog 5 #[.string s, .string t] w fun e w' => e = .returned (.bool true) ∧ Below w.heap.size w w' := by
  by_cases h1 : 65536 < s.size ∨ 65536 < t.size
  · have HE := hid hE
    clear hE
    have hd1 : decide ((65536 : Int) < (s.size : Int)) = true ∨ (decide ((65536 : Int) < (s.size : Int)) = false ∧ decide ((65536 : Int) < (t.size : Int)) = true) := by
      rcases h1 with h | h
      · exact Or.inl (decide_eq_true (by omega))
      · by_cases c : 65536 < s.size
        · exact Or.inl (decide_eq_true (by omega))
        · exact Or.inr ⟨decide_eq_false (by omega), decide_eq_true (by omega)⟩
    rcases hd1 with hd1 | ⟨hd1, hd2⟩
    · go_enter Tryd.func5, Tryd.ntmps5
      go_wp2
      go_ret
      exact ⟨rfl, Below.refl _ _⟩
    · go_enter Tryd.func5, Tryd.ntmps5
      go_wp2
      go_ret
      exact ⟨rfl, Below.refl _ _⟩
  · obtain ⟨a, rfl⟩ : ∃ l : List UInt8, s = ⟨l.toArray⟩ := ⟨s.data.toList, by cases s; simp⟩
    obtain ⟨b, rfl⟩ : ∃ l : List UInt8, t = ⟨l.toArray⟩ := ⟨t.data.toList, by cases t; simp⟩
    have hsa : (⟨a.toArray⟩ : ByteArray).size = a.length := by simp [ByteArray.size]
    have hsb : (⟨b.toArray⟩ : ByteArray).size = b.length := by simp [ByteArray.size]
    rw [hsa, hsb] at h1
    have hd1 : decide ((65536 : Int) < (a.length : Int)) = false := decide_eq_false (by omega)
    have hd2 : decide ((65536 : Int) < (b.length : Int)) = false := decide_eq_false (by omega)
    have hc1 := fun W => Lib.run_convert_string_bytes (P := Tryd.prog) W 9 30 5 ⟨a.toArray⟩ Tryd.underlying9 Tryd.underlying30 Tryd.underlying5
    have hc2 := fun W => Lib.run_convert_string_bytes (P := Tryd.prog) W 9 30 5 ⟨b.toArray⟩ Tryd.underlying9 Tryd.underlying30 Tryd.underlying5
    have hal : a.length ≤ 65536 := by omega
    have hbl : b.length ≤ 65536 := by omega
    have HE := hid hE
    clear hE h1
    have hbA := bytesWorld_below w 5 ⟨a.toArray⟩
    have hbB := bytesWorld_below (bytesWorld w 5 ⟨a.toArray⟩) 5 ⟨b.toArray⟩
    have hbW : Below w.heap.size w (bytesWorld (bytesWorld w 5 ⟨a.toArray⟩) 5 ⟨b.toArray⟩) := hbA.trans (hbB.mono hbA.size)
    have HSD := hid (sApply_any _ _ _ _ a b (bytesWorld (bytesWorld w 5 ⟨a.toArray⟩) 5 ⟨b.toArray⟩) ((bytes_of_text w a (by omega)).below hbB) (bytes_of_text (bytesWorld w 5 ⟨a.toArray⟩) b (by omega)) (fun i h => by rw [h, bytesWorld_size (bytesWorld w _ _)]; omega) (by omega) (by omega) (HE.out.below hbW))
    have HBW := hid hbW
    have HRD := hid (fun W => rApply_any a b W (by omega) (by omega))
    have hlen := applyOf_len (a := a) (d := b)
    unfold ApplyEnd at HRD
    clear hbA hbB hbW HE
    obtain ⟨r, hr⟩ : ∃ r, Fr.applyOf a b = r := ⟨_, rfl⟩
    rw [hr] at HSD HRD hlen
    clear hr
    obtain ⟨D, C⟩ := r
    simp only [] at HRD hlen
    by_cases hC : C = 0
    · subst hC
      have hDl := hlen rfl
      have hl0 : ((D.length : Int) == 0) = false := beq_eq_false_iff_ne.2 (by omega)
      clear hlen
      go_enter Tryd.func5, Tryd.ntmps5
      go_wp2_with (first
        | (go_at_call 12; refine HSD.out.mono ?_; rintro e w1 h1; obtain ⟨v1, rfl, ho, hb1⟩ := h1.ok; obtain ⟨ao, cp1, rfl⟩ := own_slice ho; have H1 := hid (And.intro (HBW.out.trans (hb1.mono HBW.out.size)) ho); clear hb1 ho)
        | (go_at_call 13; refine (HRD.out _).mono ?_; rintro e w2 ⟨rfl, hb2⟩; have hct := own_text (own_below H1.out.2 hb2) hDl; have H2 := hid (H1.out.1.trans (hb2.mono H1.out.1.size)); clear hb2))
      go_ret
      exact ⟨by simp, H2.out⟩
    · have hcn := fun W => run_nil_text W
      have hC1 : (C == C) = true := by simp
      have hC2 : (C != 0) = true := by simp [hC]
      have HCC := hid hC
      clear hC hlen
      go_enter Tryd.func5, Tryd.ntmps5
      go_wp2_with (first
        | (go_at_call 12; refine HSD.out.mono ?_; rintro e w1 h1; obtain ⟨rfl, hD', hb1⟩ := h1.no HCC.out; subst hD'; have H1 := hid (HBW.out.trans (hb1.mono HBW.out.size)); clear hb1)
        | (go_at_call 13; refine (HRD.out _).mono ?_; rintro e w2 ⟨rfl, hb2⟩; have H2 := hid (H1.out.trans (hb2.mono H1.out.size)); clear hb2))
      go_ret
      exact ⟨by simp, H2.out⟩

end Go.Proofs.YtfldcmdhneegmaaDoor
