/-
  package spotterref's WALKS, 2: window.
-/
import Derived.Test.YtfldcmdhneegmaaDoorRefW
namespace Go.Proofs.YtfldcmdhneegmaaDoor
open Go.RowKit Go.Lib

theorem num_snoc (l : List UInt8) (b : UInt8) : Pl.numOf (l ++ [b]) = 10 * Pl.numOf l + ((b.toNat : Int) - 48) := by simp [Pl.numOf]
theorem digs_more (f : Nat) (t : List UInt8) (k : Nat) (hk : k < t.length) (hd : Pl.isDig t[k] = true) : Pl.digs (f + 1) (t.drop k) = Pl.digs f (t.drop (k + 1)) + 1 := by
  rw [List.drop_eq_getElem_cons hk]
  simp [Pl.digs, hd]
theorem digs_stop (f : Nat) (t : List UInt8) (k : Nat) (h : ∀ hk : k < t.length, Pl.isDig t[k] = false) : Pl.digs f (t.drop k) = 0 := by
  cases f with
  | zero => rfl
  | succ f =>
    by_cases hk : k < t.length
    · rw [List.drop_eq_getElem_cons hk]
      simp [Pl.digs, h hk]
    · rw [List.drop_eq_nil_of_le (by omega)]
      rfl

/-- What window's loop carries. -/
structure WRel (t : List UInt8) (k : Nat) : Prop where
  le : k ≤ t.length
  le5 : k ≤ 5
  digs : Pl.digs 5 t = k + Pl.digs (5 - k) (t.drop k)
  lo : 0 ≤ Pl.numOf (t.take k)
  hi : Pl.numOf (t.take k) < 10 ^ k

theorem wrel_zero (t : List UInt8) : WRel t 0 := ⟨Nat.zero_le _, by omega, by simp, by simp [Pl.numOf], by simp [Pl.numOf]⟩
theorem wrel_succ {t : List UInt8} {k : Nat} (h : WRel t k) (hk : k < t.length) (h5 : k < 5) (hd : Pl.isDig t[k] = true) : WRel t (k + 1) ∧ Pl.numOf (t.take (k + 1)) = 10 * Pl.numOf (t.take k) + ((t[k].toNat : Int) - 48) := by
  have e : Pl.numOf (t.take (k + 1)) = 10 * Pl.numOf (t.take k) + ((t[k].toNat : Int) - 48) := by rw [Pl.take_snoc t k hk, num_snoc]
  obtain ⟨_, _, h3, h4⟩ := Pl.dig_take hd
  refine ⟨⟨by omega, by omega, ?_, ?_, ?_⟩, e⟩
  · rw [h.digs, show 5 - k = (5 - (k + 1)) + 1 by omega, digs_more _ t k hk hd]
    omega
  · rw [e]; have := h.lo; omega
  · rw [e, Int.pow_succ]; have := h.hi; omega
theorem wrel_stop {t : List UInt8} {k : Nat} (h : WRel t k) (hs : k = 5 ∨ ∀ hk : k < t.length, Pl.isDig t[k] = false) : Pl.digs 5 t = k := by
  rw [h.digs]
  rcases hs with rfl | hs
  · rfl
  · rw [digs_stop _ t k hs]; omega
theorem wrel_bound {t : List UInt8} {k : Nat} (h : WRel t k) : Pl.numOf (t.take k) < 100000 := by
  have h1 := h.hi
  have h2 := h.le5
  match k, h2, h1 with
  | 0, _, h1 => omega
  | 1, _, h1 => omega
  | 2, _, h1 => omega
  | 3, _, h1 => omega
  | 4, _, h1 => omega
  | 5, _, h1 => omega

theorem index_zero (t : List UInt8) (h : 0 < t.length) (w : World) : (Instr.index 9 (.string ⟨t.toArray⟩) (.int .i64 0)).run Tryd.prog w = .ok (.int .u8 t[0].toNat) w := index_one t 0 h w
theorem head_zero (t : List UInt8) (h : 0 < t.length) : t.head? = some t[0] := by
  cases t with
  | nil => simp at h
  | cons b r => rfl
theorem ne48 {b : UInt8} (h : b ≠ 48) : ((b.toNat : Int) == 48) = false := by
  rw [beq_eq_false_iff_ne]
  intro e
  apply h
  apply UInt8.toNat_inj.1
  have : (48 : UInt8).toNat = 48 := rfl
  omega

set_option maxHeartbeats 8000000 in
set_option maxRecDepth 1000000 in
theorem window_any (l : List UInt8) (w : World) (hl : l.length ≤ 100) :
    Calls Tryd.prog 20 #[.string ⟨l.toArray⟩] w fun e w' => e = .returned (.int .i64 (Pl.winOf l)) ∧ w' = w := by
  have hsl := Pl.sp_length l
  have HC := hid (spaces_any l w hl)
  have HWn : Hid (Pl.winOf l = if Pl.digs 5 (Pl.sp l) = 0 ∨ 4 < Pl.digs 5 (Pl.sp l) ∨ (1 < Pl.digs 5 (Pl.sp l) ∧ (Pl.sp l).head? = some 48) ∨ Pl.sp ((Pl.sp l).drop (Pl.digs 5 (Pl.sp l))) ≠ [] then -1 else Pl.numOf ((Pl.sp l).take (Pl.digs 5 (Pl.sp l)))) := rfl
  generalize Pl.winOf l = res at HWn ⊢
  generalize Pl.sp l = t at HC hsl HWn
  have htl : t.length ≤ 100 := by omega
  clear hsl
  go_enter Tryd.func20, Tryd.ntmps20
  go_wp2_with (go_at_call 17; refine HC.out.mono ?_; rintro e w' ⟨rfl, rfl⟩)
  clear HC
  go_loop [3, 4] (fun n i => ∃ k : Nat, i = .int .i64 k ∧ n = .int .i64 (Pl.numOf (t.take k)) ∧ Hid (WRel t k)) (fun _ i => t.length - (intOf i).toNat)
  case atStart => exact ⟨0, rfl, by simp [Pl.numOf], wrel_zero t⟩
  case round =>
    obtain ⟨k, rfl, rfl, hr⟩ := hrel
    have hb := wrel_bound hr.out
    have hlo := hr.out.lo
    have hkl := hr.out.le
    have hk5 := hr.out.le5
    generalize hnn : Pl.numOf (t.take k) = nn at hb hlo
    have HN := hid hnn
    clear hnn
    by_cases hgo : k < 5 ∧ ∃ hk : k < t.length, Pl.isDig t[k] = true
    · obtain ⟨h5, hk, hd⟩ := hgo
      have hix := index_one t k hk w'
      obtain ⟨d1, d2, d3, d4⟩ := Pl.dig_take hd
      have h5' : (k : Int) < 5 := by omega
      have HD := hid hd
      clear hd d2
      go_wp2
      go_round
      case rel =>
        obtain ⟨r1, r2⟩ := wrel_succ hr.out hk h5 HD.out
        refine ⟨k + 1, by go_num, ?_, r1⟩
        rw [r2, HN.out]
      case measure => simp [intOf]; omega
    · have hstop : k = 5 ∨ ∀ hk : k < t.length, Pl.isDig t[k] = false := by
        by_cases h5 : k = 5
        · exact Or.inl h5
        · right
          intro hk
          cases hd : Pl.isDig t[k] with
          | false => rfl
          | true => exact absurd ⟨by omega, hk, hd⟩ hgo
      have hdg := wrel_stop hr.out hstop
      have HG := hid hdg
      have HST := hid hstop
      clear hgo hstop hdg
      have HC := hid (spaces_any (t.drop k) w' (by rw [List.length_drop]; omega))
      have hsf := slice_from t k k rfl hkl w'
      have hsl := Pl.sp_length (t.drop k)
      generalize hrs : Pl.sp (t.drop k) = rs at HC hsl
      have HRS := hid hrs
      clear hrs
      have hfin := HWn.out
      rw [HG.out, HRS.out, HN.out] at hfin
      have HF := hid hfin
      clear hfin HWn HG HRS HN hr
      have hex : (¬ k < t.length) ∨ (∃ _hk : k < t.length, (t[k].toNat : Int) < 48) ∨ (∃ _hk : k < t.length, (57 : Int) < (t[k].toNat : Int)) ∨ (∃ _hk : k < t.length, k = 5 ∧ (48 : Int) ≤ (t[k].toNat : Int) ∧ (t[k].toNat : Int) ≤ 57) := by
        by_cases hk : k < t.length
        · by_cases c1 : (t[k].toNat : Int) < 48
          · exact Or.inr (Or.inl ⟨hk, c1⟩)
          · by_cases c2 : (57 : Int) < (t[k].toNat : Int)
            · exact Or.inr (Or.inr (Or.inl ⟨hk, c2⟩))
            · refine Or.inr (Or.inr (Or.inr ⟨hk, ?_, by omega, by omega⟩))
              rcases HST.out with h | h
              · exact h
              · have := h hk
                have hd : Pl.isDig t[k] = true := by unfold Pl.isDig; exact decide_eq_true (by omega)
                rw [hd] at this; cases this
        · exact Or.inl hk
      clear HST
      rcases hex with hk | ⟨hk, hc⟩ | ⟨hk, hc⟩ | ⟨hk, h5, hc1, hc2⟩
      · skip
        by_cases hk0 : k = 0
        · have hk0' : ((k : Int) == 0) = true := by simpa using hk0
          have HK0 := hid hk0
          clear hk0
          go_wp2_with (go_at_call 17; refine HC.out.mono ?_; rintro e w2 ⟨rfl, hw2⟩; have HW2 := hid hw2; clear hw2)
          go_ret
          rw [HW2.out]
          exact ⟨by rw [HF.out]; simp [HK0.out], rfl⟩
        · have hk0' : ((k : Int) == 0) = false := by simpa using hk0
          by_cases h4 : 4 < k
          · have h4' : (4 : Int) < (k : Int) := by omega
            go_wp2_with (go_at_call 17; refine HC.out.mono ?_; rintro e w2 ⟨rfl, hw2⟩; have HW2 := hid hw2; clear hw2)
            go_ret
            rw [HW2.out]
            exact ⟨by rw [HF.out]; simp [h4], rfl⟩
          · have h4' : ¬ (4 : Int) < (k : Int) := by omega
            by_cases h1 : 1 < k
            · have h1' : (1 : Int) < (k : Int) := by omega
              have ht0 : 0 < t.length := by omega
              have hp0 : 0 < (⟨t.toArray⟩ : ByteArray).size := by simp [ByteArray.size]; omega
              have hh := head_zero t ht0
              by_cases h48 : t[0] = 48
              · have hb0 : ((((⟨t.toArray⟩ : ByteArray)[0]'hp0).toNat : Int) == 48) = true := by rw [show (⟨t.toArray⟩ : ByteArray)[0]'hp0 = t[0] from rfl, h48]; rfl
                have H48 := hid (And.intro h48 hh)
                clear h48 hh
                go_wp2_with (go_at_call 17; refine HC.out.mono ?_; rintro e w2 ⟨rfl, hw2⟩; have HW2 := hid hw2; clear hw2)
                go_ret
                rw [HW2.out]
                exact ⟨by rw [HF.out, H48.out.2, H48.out.1]; simp [h1], rfl⟩
              · have hb0 : ((((⟨t.toArray⟩ : ByteArray)[0]'hp0).toNat : Int) == 48) = false := ne48 h48
                have H48 := hid (And.intro h48 hh)
                clear h48 hh
                cases hrs : rs with
                | nil =>
                  have HRS := hid hrs
                  subst hrs
                  go_wp2_with (go_at_call 17; refine HC.out.mono ?_; rintro e w2 ⟨rfl, hw2⟩; have HW2 := hid hw2; clear hw2)
                  go_ret
                  rw [HW2.out]
                  refine ⟨?_, rfl⟩
                  rw [HF.out, H48.out.2, if_neg (by simp [H48.out.1]; omega)]
                  rfl
                | cons c rs' =>
                  subst hrs
                  go_wp2_with (go_at_call 17; refine HC.out.mono ?_; rintro e w2 ⟨rfl, hw2⟩; have HW2 := hid hw2; clear hw2)
                  go_ret
                  rw [HW2.out]
                  refine ⟨?_, rfl⟩
                  rw [HF.out, if_pos (by simp)]
                  rfl
            · have h1' : ¬ (1 : Int) < (k : Int) := by omega
              cases hrs : rs with
              | nil =>
                subst hrs
                go_wp2_with (go_at_call 17; refine HC.out.mono ?_; rintro e w2 ⟨rfl, hw2⟩; have HW2 := hid hw2; clear hw2)
                go_ret
                rw [HW2.out]
                refine ⟨?_, rfl⟩
                rw [HF.out, if_neg (by simp; omega)]
                rfl
              | cons c rs' =>
                subst hrs
                go_wp2_with (go_at_call 17; refine HC.out.mono ?_; rintro e w2 ⟨rfl, hw2⟩; have HW2 := hid hw2; clear hw2)
                go_ret
                rw [HW2.out]
                refine ⟨?_, rfl⟩
                rw [HF.out, if_pos (by simp)]
                rfl
      · have hix := index_one t k hk w'
        have hc' : ¬ (48 : Int) ≤ (t[k].toNat : Int) := by omega
        by_cases hk0 : k = 0
        · have hk0' : ((k : Int) == 0) = true := by simpa using hk0
          have HK0 := hid hk0
          clear hk0
          go_wp2_with (go_at_call 17; refine HC.out.mono ?_; rintro e w2 ⟨rfl, hw2⟩; have HW2 := hid hw2; clear hw2)
          go_ret
          rw [HW2.out]
          exact ⟨by rw [HF.out]; simp [HK0.out], rfl⟩
        · have hk0' : ((k : Int) == 0) = false := by simpa using hk0
          by_cases h4 : 4 < k
          · have h4' : (4 : Int) < (k : Int) := by omega
            go_wp2_with (go_at_call 17; refine HC.out.mono ?_; rintro e w2 ⟨rfl, hw2⟩; have HW2 := hid hw2; clear hw2)
            go_ret
            rw [HW2.out]
            exact ⟨by rw [HF.out]; simp [h4], rfl⟩
          · have h4' : ¬ (4 : Int) < (k : Int) := by omega
            by_cases h1 : 1 < k
            · have h1' : (1 : Int) < (k : Int) := by omega
              have ht0 : 0 < t.length := by omega
              have hp0 : 0 < (⟨t.toArray⟩ : ByteArray).size := by simp [ByteArray.size]; omega
              have hh := head_zero t ht0
              by_cases h48 : t[0] = 48
              · have hb0 : ((((⟨t.toArray⟩ : ByteArray)[0]'hp0).toNat : Int) == 48) = true := by rw [show (⟨t.toArray⟩ : ByteArray)[0]'hp0 = t[0] from rfl, h48]; rfl
                have H48 := hid (And.intro h48 hh)
                clear h48 hh
                go_wp2_with (go_at_call 17; refine HC.out.mono ?_; rintro e w2 ⟨rfl, hw2⟩; have HW2 := hid hw2; clear hw2)
                go_ret
                rw [HW2.out]
                exact ⟨by rw [HF.out, H48.out.2, H48.out.1]; simp [h1], rfl⟩
              · have hb0 : ((((⟨t.toArray⟩ : ByteArray)[0]'hp0).toNat : Int) == 48) = false := ne48 h48
                have H48 := hid (And.intro h48 hh)
                clear h48 hh
                cases hrs : rs with
                | nil =>
                  have HRS := hid hrs
                  subst hrs
                  go_wp2_with (go_at_call 17; refine HC.out.mono ?_; rintro e w2 ⟨rfl, hw2⟩; have HW2 := hid hw2; clear hw2)
                  go_ret
                  rw [HW2.out]
                  refine ⟨?_, rfl⟩
                  rw [HF.out, H48.out.2, if_neg (by simp [H48.out.1]; omega)]
                  rfl
                | cons c rs' =>
                  subst hrs
                  go_wp2_with (go_at_call 17; refine HC.out.mono ?_; rintro e w2 ⟨rfl, hw2⟩; have HW2 := hid hw2; clear hw2)
                  go_ret
                  rw [HW2.out]
                  refine ⟨?_, rfl⟩
                  rw [HF.out, if_pos (by simp)]
                  rfl
            · have h1' : ¬ (1 : Int) < (k : Int) := by omega
              cases hrs : rs with
              | nil =>
                subst hrs
                go_wp2_with (go_at_call 17; refine HC.out.mono ?_; rintro e w2 ⟨rfl, hw2⟩; have HW2 := hid hw2; clear hw2)
                go_ret
                rw [HW2.out]
                refine ⟨?_, rfl⟩
                rw [HF.out, if_neg (by simp; omega)]
                rfl
              | cons c rs' =>
                subst hrs
                go_wp2_with (go_at_call 17; refine HC.out.mono ?_; rintro e w2 ⟨rfl, hw2⟩; have HW2 := hid hw2; clear hw2)
                go_ret
                rw [HW2.out]
                refine ⟨?_, rfl⟩
                rw [HF.out, if_pos (by simp)]
                rfl
      · have hix := index_one t k hk w'
        have hc' : (48 : Int) ≤ (t[k].toNat : Int) := by omega
        have hc2 : ¬ (t[k].toNat : Int) ≤ 57 := by omega
        by_cases hk0 : k = 0
        · have hk0' : ((k : Int) == 0) = true := by simpa using hk0
          have HK0 := hid hk0
          clear hk0
          go_wp2_with (go_at_call 17; refine HC.out.mono ?_; rintro e w2 ⟨rfl, hw2⟩; have HW2 := hid hw2; clear hw2)
          go_ret
          rw [HW2.out]
          exact ⟨by rw [HF.out]; simp [HK0.out], rfl⟩
        · have hk0' : ((k : Int) == 0) = false := by simpa using hk0
          by_cases h4 : 4 < k
          · have h4' : (4 : Int) < (k : Int) := by omega
            go_wp2_with (go_at_call 17; refine HC.out.mono ?_; rintro e w2 ⟨rfl, hw2⟩; have HW2 := hid hw2; clear hw2)
            go_ret
            rw [HW2.out]
            exact ⟨by rw [HF.out]; simp [h4], rfl⟩
          · have h4' : ¬ (4 : Int) < (k : Int) := by omega
            by_cases h1 : 1 < k
            · have h1' : (1 : Int) < (k : Int) := by omega
              have ht0 : 0 < t.length := by omega
              have hp0 : 0 < (⟨t.toArray⟩ : ByteArray).size := by simp [ByteArray.size]; omega
              have hh := head_zero t ht0
              by_cases h48 : t[0] = 48
              · have hb0 : ((((⟨t.toArray⟩ : ByteArray)[0]'hp0).toNat : Int) == 48) = true := by rw [show (⟨t.toArray⟩ : ByteArray)[0]'hp0 = t[0] from rfl, h48]; rfl
                have H48 := hid (And.intro h48 hh)
                clear h48 hh
                go_wp2_with (go_at_call 17; refine HC.out.mono ?_; rintro e w2 ⟨rfl, hw2⟩; have HW2 := hid hw2; clear hw2)
                go_ret
                rw [HW2.out]
                exact ⟨by rw [HF.out, H48.out.2, H48.out.1]; simp [h1], rfl⟩
              · have hb0 : ((((⟨t.toArray⟩ : ByteArray)[0]'hp0).toNat : Int) == 48) = false := ne48 h48
                have H48 := hid (And.intro h48 hh)
                clear h48 hh
                cases hrs : rs with
                | nil =>
                  have HRS := hid hrs
                  subst hrs
                  go_wp2_with (go_at_call 17; refine HC.out.mono ?_; rintro e w2 ⟨rfl, hw2⟩; have HW2 := hid hw2; clear hw2)
                  go_ret
                  rw [HW2.out]
                  refine ⟨?_, rfl⟩
                  rw [HF.out, H48.out.2, if_neg (by simp [H48.out.1]; omega)]
                  rfl
                | cons c rs' =>
                  subst hrs
                  go_wp2_with (go_at_call 17; refine HC.out.mono ?_; rintro e w2 ⟨rfl, hw2⟩; have HW2 := hid hw2; clear hw2)
                  go_ret
                  rw [HW2.out]
                  refine ⟨?_, rfl⟩
                  rw [HF.out, if_pos (by simp)]
                  rfl
            · have h1' : ¬ (1 : Int) < (k : Int) := by omega
              cases hrs : rs with
              | nil =>
                subst hrs
                go_wp2_with (go_at_call 17; refine HC.out.mono ?_; rintro e w2 ⟨rfl, hw2⟩; have HW2 := hid hw2; clear hw2)
                go_ret
                rw [HW2.out]
                refine ⟨?_, rfl⟩
                rw [HF.out, if_neg (by simp; omega)]
                rfl
              | cons c rs' =>
                subst hrs
                go_wp2_with (go_at_call 17; refine HC.out.mono ?_; rintro e w2 ⟨rfl, hw2⟩; have HW2 := hid hw2; clear hw2)
                go_ret
                rw [HW2.out]
                refine ⟨?_, rfl⟩
                rw [HF.out, if_pos (by simp)]
                rfl
      · have hix := index_one t k hk w'
        have hk0' : ((k : Int) == 0) = false := by simp; omega
        have h4' : (4 : Int) < (k : Int) := by omega
        have h5' : ¬ (k : Int) < 5 := by omega
        have H5 := hid h5
        clear h5
        go_wp2_with (go_at_call 17; refine HC.out.mono ?_; rintro e w2 ⟨rfl, hw2⟩; have HW2 := hid hw2; clear hw2)
        go_ret
        rw [HW2.out]
        exact ⟨by rw [HF.out]; simp [H5.out], rfl⟩

end Go.Proofs.YtfldcmdhneegmaaDoor
