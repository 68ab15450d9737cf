/-
  THE LAW Deltas: its walk.
-/
import Derived.Test.YtfldcmdhneegmaaDoorChFa
import Derived.Test.YtfldcmdhneegmaaDoorDlA
import Derived.Test.YtfldcmdhneegmaaDoorChG
namespace Go.Proofs.YtfldcmdhneegmaaDoor
open Go.RowKit Go.Lib

set_option maxHeartbeats 2000000 in
set_option maxRecDepth 1000000 in
theorem deltas_any (s t : ByteArray) (w : World) (hE : ErrType w) (hs : s.size ≤ 9223372036854775807) (ht : t.size ≤ 9223372036854775807) :
    Calls Tryd.prog 4 #[.string s, .string t] w fun e w' => e = .returned (.bool true) ∧ Below w.heap.size w w' := by
  by_cases h1 : 65536 < s.size ∨ 65536 < t.size
  · have HE := hid hE
    clear hE
    have hd1 : decide ((65536 : Int) < (s.size : Int)) = true ∨ (decide ((65536 : Int) < (s.size : Int)) = false ∧ decide ((65536 : Int) < (t.size : Int)) = true) := by
      rcases h1 with h | h
      · exact Or.inl (decide_eq_true (by omega))
      · by_cases c : 65536 < s.size
        · exact Or.inl (decide_eq_true (by omega))
        · exact Or.inr ⟨decide_eq_false (by omega), decide_eq_true (by omega)⟩
    rcases hd1 with hd1 | ⟨hd1, hd2⟩
    · go_enter Tryd.func4, Tryd.ntmps4
      go_wp2
      go_ret
      exact ⟨rfl, Below.refl _ _⟩
    · go_enter Tryd.func4, Tryd.ntmps4
      go_wp2
      go_ret
      exact ⟨rfl, Below.refl _ _⟩
  · obtain ⟨a, rfl⟩ : ∃ l : List UInt8, s = ⟨l.toArray⟩ := ⟨s.data.toList, by cases s; simp⟩
    obtain ⟨b, rfl⟩ : ∃ l : List UInt8, t = ⟨l.toArray⟩ := ⟨t.data.toList, by cases t; simp⟩
    have hsa : (⟨a.toArray⟩ : ByteArray).size = a.length := by simp [ByteArray.size]
    have hsb : (⟨b.toArray⟩ : ByteArray).size = b.length := by simp [ByteArray.size]
    rw [hsa, hsb] at h1
    have hd1 : decide ((65536 : Int) < (a.length : Int)) = false := decide_eq_false (by omega)
    have hd2 : decide ((65536 : Int) < (b.length : Int)) = false := decide_eq_false (by omega)
    have hc1 := fun W => Lib.run_convert_string_bytes (P := Tryd.prog) W 9 30 5 ⟨a.toArray⟩ Tryd.underlying9 Tryd.underlying30 Tryd.underlying5
    have hc2 := fun W => Lib.run_convert_string_bytes (P := Tryd.prog) W 9 30 5 ⟨b.toArray⟩ Tryd.underlying9 Tryd.underlying30 Tryd.underlying5
    have hal : a.length ≤ 65536 := by omega
    have hbl : b.length ≤ 65536 := by omega
    have HE := hid hE
    clear hE h1
    have hbA := bytesWorld_below w 5 ⟨a.toArray⟩
    have hbB := bytesWorld_below (bytesWorld w 5 ⟨a.toArray⟩) 5 ⟨b.toArray⟩
    have hbW : Below w.heap.size w (bytesWorld (bytesWorld w 5 ⟨a.toArray⟩) 5 ⟨b.toArray⟩) := hbA.trans (hbB.mono hbA.size)
    have HSD := hid (sDelta_any _ _ _ _ a b (bytesWorld (bytesWorld w 5 ⟨a.toArray⟩) 5 ⟨b.toArray⟩) ((bytes_of_text w a (by omega)).below hbB) (bytes_of_text (bytesWorld w 5 ⟨a.toArray⟩) b (by omega)) (by omega) (by omega) (HE.out.below hbW))
    have HBW := hid hbW
    have HRD := hid (fun W => rDelta_any a b W (by omega) (by omega))
    clear hbA hbB hbW HE
    by_cases hso : (Fr.sound a 83).isSome = true ∧ (Fr.sound b 83).isSome = true
    · have hD : Fr.deltaOf a b = (Fr.delta a b, 0) := by unfold Fr.deltaOf; rw [if_pos hso]
      have hDl : 0 < (Fr.delta a b).length := by unfold Fr.delta Fr.framed; simp
      obtain ⟨D, hDD⟩ : ∃ D, Fr.delta a b = D := ⟨_, rfl⟩
      rw [hDD] at hD hDl
      have HD := hid (And.intro hD (And.intro hso hDD))
      have hl0 : ((D.length : Int) == 0) = false := beq_eq_false_iff_ne.2 (by omega)
      clear hD hso hDD
      go_enter Tryd.func4, Tryd.ntmps4
      go_wp2_with (first
        | (go_at_call 10; refine HSD.out.mono ?_; rintro e w1 ⟨hb1, he⟩; rw [if_pos HD.out.2.1, HD.out.2.2] at he; obtain ⟨v1, rfl, ho⟩ := he; obtain ⟨ao, cp1, rfl⟩ := own_slice ho; have H1 := hid (And.intro (HBW.out.trans (hb1.mono HBW.out.size)) ho); clear hb1 ho)
        | (go_at_call 11; refine (HRD.out _).mono ?_; rintro e w2 ⟨he, hb2⟩; rw [HD.out.1] at he; subst he; have hct := own_text (own_below H1.out.2 hb2) hDl; have H2 := hid (H1.out.1.trans (hb2.mono H1.out.1.size)); clear hb2))
      go_ret
      exact ⟨by simp, H2.out⟩
    · have hD : Fr.deltaOf a b = ([], 5) := by unfold Fr.deltaOf; rw [if_neg hso]
      have HD := hid (And.intro hD hso)
      have hcn := fun W => run_nil_text W
      clear hD hso
      go_enter Tryd.func4, Tryd.ntmps4
      go_wp2_with (first
        | (go_at_call 10; refine HSD.out.mono ?_; rintro e w1 ⟨hb1, he⟩; rw [if_neg HD.out.2] at he; subst he; have H1 := hid (HBW.out.trans (hb1.mono HBW.out.size)); clear hb1)
        | (go_at_call 11; refine (HRD.out _).mono ?_; rintro e w2 ⟨he, hb2⟩; rw [HD.out.1] at he; subst he; have H2 := hid (H1.out.trans (hb2.mono H1.out.size)); clear hb2))
      go_ret
      exact ⟨by simp, H2.out⟩

end Go.Proofs.YtfldcmdhneegmaaDoor
