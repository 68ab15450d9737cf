/-
  THE READER's WALKS, 1: complete, addDigit, takeOfWindow.
-/
import Derived.Test.YtfldcmdhneegmaaDoorParts
import Derived.BigQuiet
import Derived.Deep.QuietTactic
namespace Go.Proofs.YtfldcmdhneegmaaDoor
open Go.RowKit Go.Lib

set_option maxHeartbeats 1000000 in
theorem complete_any (b base : Nat) (s : Pl.St) (v : Value) (w : World) (h : Rd b base s v w) :
    Calls Tryd.prog 29 #[.pointer (some ⟨b, 0, none⟩)] w fun e w' => e = .returned (.bool (Pl.complete s)) ∧ w' = w := by
  have c0 := h.c0
  unfold Pl.complete
  clear h
  by_cases h4 : s.pl = 4
  · rw [h4] at c0
    go_enter Tryd.func29, Tryd.ntmps29
    go_wp2
    go_ret
    exact ⟨by simp [h4], rfl⟩
  · have h4' : (s.pl == 4) = false := by simpa using h4
    by_cases h5 : s.pl = 5
    · have h5' : (s.pl == 5) = true := by simpa using h5
      have H5 : Hid (s.pl = 5) := h5
      clear h5
      go_enter Tryd.func29, Tryd.ntmps29
      go_wp2
      go_ret
      exact ⟨by simp [H5.out], rfl⟩
    · have h5' : (s.pl == 5) = false := by simpa using h5
      go_enter Tryd.func29, Tryd.ntmps29
      go_wp2
      go_ret
      exact ⟨by simp [h4, h5], rfl⟩

set_option maxHeartbeats 1000000 in
theorem addDigit_any (b base : Nat) (s : Pl.St) (v : Value) (d : Int) (w : World) (h : Rd b base s v w) (ho : Pl.Ok s) (d0 : 0 ≤ d) (d9 : d ≤ 9) :
    Calls Tryd.prog 73 #[.pointer (some ⟨b, 0, none⟩), .int .i64 d] w fun e w' => After b base (Pl.addDigit s d) w e w' := by
  have c0 := h.c0
  have c2 := h.c2
  have f0 := h.fz 0
  have f2 := h.fz 2
  have hw0 := ho.w0
  have hw9 := ho.w9
  have HR : Hid (Rd b base s v w) := h
  clear h
  obtain ⟨pl, l, win⟩ := s
  simp only at c0 c2 hw0 hw9
  by_cases h5 : pl = 5
  · have h5' : (pl == 5) = true := by simpa using h5
    have H5 : Hid (pl = 5) := h5
    clear h5
    go_enter Tryd.func73, Tryd.ntmps73
    go_wp2
    go_ret
    rw [show Pl.addDigit ⟨pl, l, win⟩ d = none by simp [Pl.addDigit, H5.out]]
    exact ⟨Kept.refl _ _, rfl⟩
  · have h5' : (pl == 5) = false := by simpa using h5
    by_cases h4 : pl = 4 ∧ win = 0
    · obtain ⟨ha, hb⟩ := h4
      have ha' : (pl == 4) = true := by simpa using ha
      have hb' : (win == 0) = true := by simpa using hb
      have HA : Hid (pl = 4) := ha
      have HB : Hid (win = 0) := hb
      clear ha hb
      go_enter Tryd.func73, Tryd.ntmps73
      go_wp2
      go_ret
      rw [show Pl.addDigit ⟨pl, l, win⟩ d = none by simp [Pl.addDigit, HA.out, HB.out]]
      exact ⟨Kept.refl _ _, rfl⟩
    · have R2 : Hid (Rd b base { pl := 4, l := l, win := win * 10 + d } v ((w.setCell ⟨b, 0, none⟩ (.int .i64 4)).setCell ⟨b, 2, none⟩ (.int .i64 (win * 10 + d)))) := (HR.out.setPl 4).setWin _
      have K2 : Hid (Kept b w ((w.setCell ⟨b, 0, none⟩ (.int .i64 4)).setCell ⟨b, 2, none⟩ (.int .i64 (win * 10 + d)))) := ((Kept.refl b w).setCell 0 _).setCell 2 _
      have H5 : Hid (¬ pl = 5) := h5
      have H4 : Hid (¬ (pl = 4 ∧ win = 0)) := h4
      clear h5 h4
      by_cases ha : pl = 4
      · have hb : (win == 0) = false := by have := H4.out; simp; omega
        have ha' : (pl == 4) = true := by simpa using ha
        have HA : Hid (pl = 4) := ha
        clear ha
        by_cases h9 : win * 10 + d ≤ 9999
        · go_enter Tryd.func73, Tryd.ntmps73
          go_wp2
          go_ret
          rw [show Pl.addDigit ⟨pl, l, win⟩ d = some { pl := 4, l := l, win := win * 10 + d } by simp only [Pl.addDigit]; rw [if_neg H5.out, if_neg H4.out, if_pos h9]]
          exact ⟨K2.out, by simp, v, R2.out⟩
        · go_enter Tryd.func73, Tryd.ntmps73
          go_wp2
          go_ret
          rw [show Pl.addDigit ⟨pl, l, win⟩ d = none by simp only [Pl.addDigit]; rw [if_neg H5.out, if_neg H4.out, if_neg (by omega)]]
          exact ⟨K2.out, by simp⟩
      · have ha' : (pl == 4) = false := by simpa using ha
        have HA : Hid (¬ pl = 4) := ha
        clear ha
        by_cases h9 : win * 10 + d ≤ 9999
        · go_enter Tryd.func73, Tryd.ntmps73
          go_wp2
          go_ret
          rw [show Pl.addDigit ⟨pl, l, win⟩ d = some { pl := 4, l := l, win := win * 10 + d } by simp only [Pl.addDigit]; rw [if_neg H5.out, if_neg H4.out, if_pos h9]]
          exact ⟨K2.out, by simp, v, R2.out⟩
        · go_enter Tryd.func73, Tryd.ntmps73
          go_wp2
          go_ret
          rw [show Pl.addDigit ⟨pl, l, win⟩ d = none by simp only [Pl.addDigit]; rw [if_neg H5.out, if_neg H4.out, if_neg (by omega)]]
          exact ⟨K2.out, by simp⟩

set_option maxHeartbeats 1000000 in
theorem takeWindow_any (b base : Nat) (s : Pl.St) (v : Value) (c : Int) (w : World) (h : Rd b base s v w) (ho : Pl.Ok s) (c0 : -2147483648 ≤ c) (c9 : c ≤ 2147483647) :
    Calls Tryd.prog 50 #[.pointer (some ⟨b, 0, none⟩), .int .i32 c] w fun e w' => After b base (Pl.takeWindow s c) w e w' := by
  by_cases h32 : c = 32
  · have hc := h.c0
    have hf := h.fz 0
    by_cases h4 : s.pl = 4
    · have h4' : (s.pl == 4) = true := by simpa using h4
      have R2 : Hid (Rd b base { s with pl := 5 } v (w.setCell ⟨b, 0, none⟩ (.int .i64 5))) := h.setPl 5
      have K2 : Hid (Kept b w (w.setCell ⟨b, 0, none⟩ (.int .i64 5))) := (Kept.refl b w).setCell 0 _
      have H4 : Hid (s.pl = 4) := h4
      clear h h4
      subst h32
      go_enter Tryd.func50, Tryd.ntmps50
      go_wp2
      go_ret
      rw [show Pl.takeWindow s 32 = some { s with pl := 5 } by simp [Pl.takeWindow, H4.out]]
      exact ⟨K2.out, rfl, v, R2.out⟩
    · have h4' : (s.pl == 4) = false := by simpa using h4
      have R2 : Hid (Rd b base s v w) := h
      clear h
      subst h32
      go_enter Tryd.func50, Tryd.ntmps50
      go_wp2
      go_ret
      rw [show Pl.takeWindow s 32 = some s by simp [Pl.takeWindow, h4]]
      exact ⟨Kept.refl _ _, rfl, v, R2.out⟩
  · have h32' : (c == 32) = false := by simpa using h32
    by_cases hd : 48 ≤ c ∧ c ≤ 57
    · have hcall := addDigit_any b base s v (c - 48) w h ho (by omega) (by omega)
      have HC : Hid (Calls Tryd.prog 73 #[.pointer (some ⟨b, 0, none⟩), .int .i64 (c - 48)] w fun e w' => After b base (Pl.addDigit s (c - 48)) w e w') := hcall
      obtain ⟨h48, h57⟩ := hd
      clear h hcall
      rw [show Pl.takeWindow s c = Pl.addDigit s (c - 48) by simp [Pl.takeWindow, h32, h48, h57]]
      generalize Pl.addDigit s (c - 48) = r at HC ⊢
      cases r with
      | none =>
        go_enter Tryd.func50, Tryd.ntmps50
        go_wp2_with (go_at_call 73; refine HC.out.mono ?_; rintro e w' ⟨k, rfl⟩; have K2 : Hid (Kept b w w') := k; clear k)
        go_ret
        exact ⟨K2.out, rfl⟩
      | some s' =>
        go_enter Tryd.func50, Tryd.ntmps50
        go_wp2_with (go_at_call 73; refine HC.out.mono ?_; rintro e w' ⟨k, rfl, r'⟩; have K2 : Hid (Kept b w w' ∧ ∃ v', Rd b base s' v' w') := ⟨k, r'⟩; clear k r')
        go_ret
        exact ⟨K2.out.1, rfl, K2.out.2⟩
    · have hr : Pl.takeWindow s c = none := by simp only [Pl.takeWindow]; rw [if_neg h32, if_neg hd]
      rw [hr]
      clear h hr
      by_cases h48 : 48 ≤ c
      · have h57 : ¬ c ≤ 57 := by omega
        clear hd
        go_enter Tryd.func50, Tryd.ntmps50
        go_wp2
        go_ret
        exact ⟨Kept.refl _ _, rfl⟩
      · clear hd
        go_enter Tryd.func50, Tryd.ntmps50
        go_wp2
        go_ret
        exact ⟨Kept.refl _ _, rfl⟩

end Go.Proofs.YtfldcmdhneegmaaDoor
