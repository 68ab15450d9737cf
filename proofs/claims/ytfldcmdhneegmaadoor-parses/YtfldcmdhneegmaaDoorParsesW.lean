/-
  THE LAW Parses: its walk.
-/
import Derived.Test.YtfldcmdhneegmaaDoorCanonW
import Derived.Test.YtfldcmdhneegmaaDoorRefS
namespace Go.Proofs.YtfldcmdhneegmaaDoor
open Go.RowKit Go.Lib

set_option maxHeartbeats 1000000 in
theorem refParse_long (s : ByteArray) (w : World) (hs : 60 < s.size) (hm : s.size ≤ 9223372036854775807) :
    Calls Tryd.prog 8 #[.string s] w fun e w' => e = .returned (.tuple #[.pointer none, .int .i64 1]) ∧ w' = w := by
  have h1 : (60 : Int) < (s.size : Int) := by omega
  go_enter Tryd.func8, Tryd.ntmps8
  go_wp2
  go_ret2
  exact ⟨rfl, rfl⟩

theorem bytes_eta (s : ByteArray) : s = ⟨s.data.toList.toArray⟩ := by cases s; simp

set_option maxHeartbeats 4000000 in
theorem parses_any (s : ByteArray) (w : World) (hE : Env w) (hD : Decodes w) (hm : s.size ≤ 9223372036854775807) :
    Calls Tryd.prog 3 #[.string s] w fun e w' => e = .returned (.bool true) ∧ Below w.heap.size w w' := by
  by_cases h60 : 60 < s.size
  · have H1 := hid (sParse_of s w hE hm [] 1 (by simp [Pl.answer, h60]))
    have H2 : Hid (∀ W, Calls Tryd.prog 8 #[.string s] W fun e w' => e = .returned (.tuple #[.pointer none, .int .i64 1]) ∧ Hid (w' = W)) := fun W => (refParse_long s W h60 hm).mono fun e w' ⟨h1, h2⟩ => ⟨h1, h2⟩
    clear hE hD h60
    go_enter Tryd.func3, Tryd.ntmps3
    go_wp2_with (first | (go_at_call 7; refine H1.out.mono ?_; rintro e w1 ⟨rfl, hb1⟩) | (go_at_call 8; refine (H2.out _).mono ?_; rintro e w2 ⟨rfl, hw2⟩))
    go_ret
    rw [hw2.out]
    exact ⟨by simp, hb1.out.1⟩
  · obtain ⟨l, rfl⟩ : ∃ l : List UInt8, s = ⟨l.toArray⟩ := ⟨s.data.toList, bytes_eta s⟩
    have hl : l.length ≤ 60 := by simp [ByteArray.size] at h60; omega
    have hq := Pl.ref_parse l (l.length + 1) (by omega)
    have H2 : Hid (∀ W, Below w.heap.size w W → Calls Tryd.prog 8 #[.string ⟨l.toArray⟩] W fun e w' => RefEnd (Pl.parse ⟨l.toArray⟩) W e w') := fun W hb => by
      rw [← hq]
      exact refParse_any l W hl (hE.below hb).letters (hD.below hb)
    have H1 := hid (sParse_any ⟨l.toArray⟩ w hE hm)
    clear hq
    cases hp : Pl.parse ⟨l.toArray⟩ with
    | none =>
      rw [hp] at H2
      have ha' : Pl.answer ⟨l.toArray⟩ = ([], 2) := by unfold Pl.answer; rw [if_neg h60, hp]
      have H1' := hid (sParse_of ⟨l.toArray⟩ w hE hm [] 2 ha')
      have H2' : Hid (∀ W, Below w.heap.size w W → Calls Tryd.prog 8 #[.string ⟨l.toArray⟩] W fun e w' => e = .returned (.tuple #[.pointer none, .int .i64 2]) ∧ Hid (Below W.heap.size W w')) := fun W hb => (H2.out W hb).mono fun e w' h => h
      clear hE hD h60 H1 H2 ha' hp
      go_enter Tryd.func3, Tryd.ntmps3
      go_wp2_with (first | (go_at_call 7; refine H1'.out.mono ?_; rintro e w1 ⟨rfl, hb1⟩) | (go_at_call 8; refine (H2'.out _ hb1.out.1).mono ?_; rintro e w2 ⟨rfl, hb2⟩))
      go_ret
      exact ⟨by simp, hb1.out.1.trans (hb2.out.mono hb1.out.1.size)⟩
    | some q =>
      obtain ⟨steps, win⟩ := q
      rw [hp] at H2
      have ha' : Pl.answer ⟨l.toArray⟩ = (Pl.text steps win, 0) := by unfold Pl.answer; rw [if_neg h60, hp]
      have HF := hid (Pl.fine_parse hp)
      have H1' := hid (sParse_of ⟨l.toArray⟩ w hE hm _ 0 ha')
      have H2' : Hid (∀ W, Below w.heap.size w W → Calls Tryd.prog 8 #[.string ⟨l.toArray⟩] W fun e w' => e = .returned (.tuple #[.pointer (some ⟨W.heap.size, 0, none⟩), .int .i64 0]) ∧ Hid (∃ v, PRel W w' steps v win)) := fun W hb => (H2.out W hb).mono fun e w' ⟨v, h1, h2⟩ => ⟨h1, v, h2⟩
      clear hE hD h60 H1 H2 ha' hp
      go_enter Tryd.func3, Tryd.ntmps3
      go_wp2_with (first | (go_at_call 7; refine H1'.out.mono ?_; rintro e w1 ⟨rfl, hb1⟩) | (go_at_call 8; refine (H2'.out _ hb1.out.1).mono ?_; rintro e w2 ⟨rfl, hb2⟩))
      obtain ⟨v, hP⟩ := hb2.out
      have HP := hid hP
      refine (refText_any steps win v _ _ w2 HF.out hP.own hP.blk).mono ?_
      clear hP hb2
      rintro e w3 ⟨rfl, b3⟩
      have HB3 := hid b3
      clear b3
      go_wp2
      go_ret
      exact ⟨by simp, hb1.out.1.trans ((HP.out.bel.trans (HB3.out.mono (Nat.le_of_lt HP.out.lt))).mono hb1.out.1.size)⟩

end Go.Proofs.YtfldcmdhneegmaaDoor
