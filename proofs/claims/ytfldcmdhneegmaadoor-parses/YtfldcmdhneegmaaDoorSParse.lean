/-
  package spotter's Parse.
-/
import Derived.Test.YtfldcmdhneegmaaDoorPStr
import Derived.Test.YtfldcmdhneegmaaDoorPNum
namespace Go.Proofs.YtfldcmdhneegmaaDoor
open Go.RowKit Go.Lib

/-- What Parse answers: the canonical text (or none), and the number. -/
def Pl.answer (s : ByteArray) : List UInt8 × Int :=
  if 60 < s.size then ([], 1) else match Pl.parse s with
    | none => ([], 2)
    | some (l, win) => (Pl.text l win, 0)

/-- The library's variables that Parse leans on. -/
structure Env (w : World) : Prop where
  letters : Letters w
  err : ErrType w
  pow : Pow10 w

theorem Env.below {w w' : World} (h : Env w) (hb : Below w.heap.size w w') : Env w' where
  letters := fun c W h1 h2 h3 => h.letters c W h1 h2 (hb.trans (h3.mono hb.size))
  err := cell_below hb h.err
  pow := TabIs_below (g := 5) (by kernel_rfl) h.pow hb

set_option maxHeartbeats 4000000 in
theorem sParse_any (s : ByteArray) (w : World) (hE : Env w) (hm : s.size ≤ 9223372036854775807) :
    Calls Tryd.prog 7 #[.string s] w fun e w' => e = .returned (.tuple #[.string ⟨(Pl.answer s).1.toArray⟩, .int .i64 (Pl.answer s).2]) ∧ Below w.heap.size w w' := by
  by_cases h60 : 60 < s.size
  · rw [show Pl.answer s = ([], 1) by simp [Pl.answer, h60]]
    have HP := hid (pParse_long s w h60 hm)
    have HE := hid hE
    clear hE h60
    go_enter Tryd.func7, Tryd.ntmps7
    go_wp2_with (go_at_call 14; refine HP.out.mono ?_)
    rintro e w1 ⟨rfl, b1⟩
    have HB := hid b1
    have HN := hid (pnum_long s.size _ (((HE.out.below b1).below ((Below.refl _ w1).alloc (Nat.le_refl _) (.cells #[.slice none 0 0, .int .i64 0] 37))).err))
    clear b1
    go_wp2_with (go_at_call 15; refine HN.out.mono ?_)
    rintro e w2 ⟨rfl, b2⟩
    have HB2 := hid b2
    clear b2
    go_wp2
    go_ret2
    refine ⟨rfl, HB.out.trans ?_⟩
    have h1 := HB.out.size
    exact (((Below.refl _ w1).alloc (Nat.le_refl _) _).mono h1).trans (HB2.out.mono (by simp; omega))
  · have HP := hid (pParse_any s w (by omega) hE.letters)
    unfold ParseEnd at HP
    cases hq : Pl.parse s with
    | none =>
      rw [show Pl.answer s = ([], 2) by simp [Pl.answer, h60, hq]]
      rw [hq] at HP
      have HP' : Hid (Calls Tryd.prog 14 #[.string s] w fun e w' => (∃ k : Int, e = .returned (.tuple #[.agg #[.slice none 0 0, .int .i64 0], .iface 72 (.agg #[.int .i64 k])])) ∧ Below w.heap.size w w') := HP
      have HE := hid hE
      clear hE h60 hq HP
      go_enter Tryd.func7, Tryd.ntmps7
      go_wp2_with (go_at_call 14; refine HP'.out.mono ?_; rintro e w1 ⟨⟨k, rfl⟩, b1⟩; have HB := hid b1; have HN := hid (pnum_syn k _ (((HE.out.below b1).below ((Below.refl _ w1).alloc (Nat.le_refl _) (.cells #[.slice none 0 0, .int .i64 0] 37))).err)); clear b1)
      refine HN.out.mono ?_
      rintro e w2 ⟨rfl, b2⟩
      have HB2 := hid b2
      clear b2
      go_wp2
      go_ret2
      refine ⟨rfl, HB.out.trans ?_⟩
      have h1 := HB.out.size
      exact (((Below.refl _ w1).alloc (Nat.le_refl _) _).mono h1).trans (HB2.out.mono (by simp; omega))
    | some q =>
      obtain ⟨l, win⟩ := q
      rw [show Pl.answer s = (Pl.text l win, 0) by simp [Pl.answer, h60, hq]]
      have HF := hid (Pl.fine_parse hq)
      rw [hq] at HP
      have HP' : Hid (Calls Tryd.prog 14 #[.string s] w fun e w' => ∃ ao cap, e = .returned (.tuple #[.agg #[.slice ao l.length cap, .int .i64 win], .nilIface]) ∧ w'.ownsRow w.heap.size 90 2 (.slice ao l.length cap) l.length (stepCells l) ∧ Below w.heap.size w w') := HP.out.mono fun e w' ⟨v, he, own1, b1⟩ => by
        obtain ⟨ao, cap, rfl⟩ := own_slice own1
        exact ⟨ao, cap, he, own1, b1⟩
      have HE := hid hE
      clear hE h60 hq HP
      go_enter Tryd.func7, Tryd.ntmps7
      go_wp2_with (go_at_call 14; refine HP'.out.mono ?_; rintro e w1 ⟨ao, cap, rfl, own1, b1⟩; have HB := hid b1; have hal := (Below.refl w1.heap.size w1).alloc (Nat.le_refl _) (.cells #[.slice ao l.length cap, .int .i64 win] 37); have HS := hid (pString_any l win _ w.heap.size _ HF.out (own_below own1 hal) (((HE.out.below b1).below hal).pow)); clear b1 hal own1)
      refine HS.out.mono ?_
      rintro e w2 ⟨rfl, b2⟩
      have HB2 := hid b2
      clear b2
      go_wp2
      go_ret2
      refine ⟨rfl, HB.out.trans ?_⟩
      have h1 := HB.out.size
      exact (((Below.refl _ w1).alloc (Nat.le_refl _) _).mono h1).trans (HB2.out.mono (by simp; omega))

end Go.Proofs.YtfldcmdhneegmaaDoor
