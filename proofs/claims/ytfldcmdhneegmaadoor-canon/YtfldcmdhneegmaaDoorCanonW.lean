/-
  THE LAW Canon: its walk.
-/
import Derived.Test.YtfldcmdhneegmaaDoorCanon
import Derived.Test.YtfldcmdhneegmaaDoorCanonX
namespace Go.Proofs.YtfldcmdhneegmaaDoor
open Go.RowKit Go.Lib

theorem sParse_of (s : ByteArray) (w : World) (hE : Env w) (hm : s.size ≤ 9223372036854775807) (t : List UInt8) (n : Int) (h : Pl.answer s = (t, n)) :
    Calls Tryd.prog 7 #[.string s] w fun e w' => e = .returned (.tuple #[.string ⟨t.toArray⟩, .int .i64 n]) ∧ Hid (Below w.heap.size w w' ∧ Env w') :=
  (sParse_any s w hE hm).mono fun e w' ⟨he, hb⟩ => ⟨by rw [h] at he; exact he, hb, hE.below hb⟩

theorem widen_le (l : List UInt8) : (Pl.widen l).length ≤ 2 * l.length := by
  induction l with
  | nil => simp [Pl.widen]
  | cons b r ih =>
    have : Pl.widen (b :: r) = (if b = 32 then [32, 32] else [b]) ++ Pl.widen r := rfl
    rw [this, List.length_append, List.length_cons]
    split <;> simp <;> omega
theorem widen_snoc (t : List UInt8) (k : Nat) (hk : k < t.length) : Pl.widen (t.take (k + 1)) = Pl.widen (t.take k) ++ (if t[k] = 32 then [32, 32] else [t[k]]) := by
  rw [Pl.take_snoc t k hk, Pl.widen_append]
  simp [Pl.widen]

set_option maxHeartbeats 4000000 in
set_option maxRecDepth 1000000 in
theorem canon_any (s : ByteArray) (w : World) (hE : Env w) (hm : s.size ≤ 9223372036854775807) :
    Calls Tryd.prog 6 #[.string s] w fun e w' => e = .returned (.bool true) ∧ Below w.heap.size w w' := by
  have H1 := hid (sParse_of _ w hE (by decide) _ _ answer_known)
  obtain ⟨t, n, hq⟩ : ∃ t n, Pl.answer s = (t, n) := ⟨_, _, rfl⟩
  have H2 : Hid (∀ w1, Env w1 → _) := fun w1 h1 => sParse_of s w1 h1 hm t n hq
  have HE := hid hE
  clear hE
  by_cases hn : n = 0
  · subst hn
    obtain ⟨l, win, hf, ht⟩ := answer_ok (s := s) (by rw [hq])
    rw [hq] at ht
    simp only at ht
    subst ht
    have hl := Pl.text_length l win hf
    have HA := hid (And.intro (answer_text l win hf) (And.intro hq (answer_wide l win hf)))
    clear hf hq
    go_enter Tryd.func6, Tryd.ntmps6
    go_wp2_with fail
    refine H1.out.mono ?_
    rintro e w1 ⟨rfl, hb1⟩
    go_wp2_with fail
    refine (H2.out w1 hb1.out.2).mono ?_
    rintro e w2 ⟨rfl, hb2⟩
    have H3 := hid (sParse_of _ w2 hb2.out.2 (by simp [ByteArray.size]; omega) _ _ HA.out.1)
    go_wp2_with fail
    refine H3.out.mono ?_
    rintro e w3 ⟨rfl, hb3⟩
    generalize Pl.text l win = t at hl HA ⊢
    clear H1 H2 H3
    go_wp2
    go_loop [7, 8] (fun wd i => ∃ k : Nat, k ≤ t.length ∧ i = .int .i64 k ∧ wd = .string ⟨(Pl.widen (t.take k)).toArray⟩) (fun _ i => t.length - (intOf i).toNat)
    case atStart => exact ⟨0, Nat.zero_le _, rfl, rfl⟩
    case round =>
      obtain ⟨k, hk, rfl, rfl⟩ := hrel
      have hwl := widen_le (t.take k)
      have htl : (t.take k).length ≤ 30 := Nat.le_trans (List.length_take_le _ _) (by omega)
      have hwd : (Pl.widen (t.take k)).length ≤ 60 := by omega
      clear hwl htl
      by_cases hlt : k < t.length
      · have hsl := slice_one t k hlt w3
        have hix := index_one t k hlt w3
        by_cases h32 : t[k] = 32
        · have hb : ((t[k].toNat : Int) == 32) = true := by rw [h32]; rfl
          have H32 := hid h32
          clear h32
          go_wp2
          go_round
          case rel =>
            refine ⟨k + 1, by omega, by go_num, ?_⟩
            rw [widen_snoc t k hlt, if_pos H32.out, H32.out, ByteArray.mk_append_mk, ByteArray.mk_append_mk]
            simp
          case measure => simp [intOf]; omega
        · have hb : ((t[k].toNat : Int) == 32) = false := by
            rw [beq_eq_false_iff_ne]
            intro e
            apply h32
            apply UInt8.toNat_inj.1
            have : (32 : UInt8).toNat = 32 := rfl
            omega
          have H32 := hid h32
          clear h32
          go_wp2
          go_round
          case rel =>
            refine ⟨k + 1, by omega, by go_num, ?_⟩
            rw [widen_snoc t k hlt, if_neg H32.out, ByteArray.mk_append_mk]
          case measure => simp [intOf]; omega
      · obtain rfl : k = t.length := by omega
        rw [List.take_length] at hwd ⊢
        by_cases h58 : 58 < (Pl.widen t).length
        · have h58' : (58 : Int) < ((Pl.widen t).length : Int) := by omega
          go_wp2_with fail
          rw [ByteArray.mk_append_mk, ByteArray.mk_append_mk]
          refine (sParse_any _ w3 hb3.out.2 (by simp [ByteArray.size]; omega)).mono ?_
          rintro e w4 ⟨rfl, b4⟩
          have HB := hid b4
          clear b4
          go_wp2
          go_ret
          exact ⟨by simp, hb1.out.1.trans ((hb2.out.1.trans ((hb3.out.1.trans (HB.out.mono hb3.out.1.size)).mono hb2.out.1.size)).mono hb1.out.1.size)⟩
        · have h58' : ¬ (58 : Int) < ((Pl.widen t).length : Int) := by omega
          have HW := hid (HA.out.2.2 (by omega))
          go_wp2_with fail
          rw [ByteArray.mk_append_mk, ByteArray.mk_append_mk]
          refine (sParse_of _ w3 hb3.out.2 (by simp [ByteArray.size]; omega) _ _ (by simpa using HW.out)).mono ?_
          rintro e w4 ⟨rfl, b4⟩
          go_wp2
          go_ret
          exact ⟨by simp, hb1.out.1.trans ((hb2.out.1.trans ((hb3.out.1.trans (b4.out.1.mono hb3.out.1.size)).mono hb2.out.1.size)).mono hb1.out.1.size)⟩
  · have ht := answer_err (s := s) (by rw [hq]; exact hn)
    rw [hq] at ht
    simp only at ht
    subst ht
    have hn' : (n == 0) = false := by simpa using hn
    have hn2 : (n != 0) = true := by simpa using hn
    clear hq hn
    go_enter Tryd.func6, Tryd.ntmps6
    go_wp2_with fail
    refine H1.out.mono ?_
    rintro e w1 ⟨rfl, hb1⟩
    go_wp2_with fail
    refine (H2.out w1 hb1.out.2).mono ?_
    rintro e w2 ⟨rfl, hb2⟩
    clear H1 H2
    go_wp2
    go_ret
    exact ⟨by simp, hb1.out.1.trans (hb2.out.1.mono hb1.out.1.size)⟩

end Go.Proofs.YtfldcmdhneegmaaDoor
