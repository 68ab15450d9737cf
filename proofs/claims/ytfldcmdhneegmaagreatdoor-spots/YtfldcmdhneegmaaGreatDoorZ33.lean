import Derived.Test.YtfldcmdhneegmaaGreatDoorZ30
import Derived.Test.YtfldcmdhneegmaaGreatDoorZ32
import Derived.Laws.IdiomStrings

/-
  package spotterref's WALKS, 1: spaces, digits.
-/
namespace Go.Proofs.YtfldcmdhneegmaaGreatDoor
open Go.RowKit Go.Lib

theorem extract_from (t : List UInt8) (k : Nat) : (⟨t.toArray⟩ : ByteArray).extract k t.length = ⟨(t.drop k).toArray⟩ := by
  apply ByteArray.ext
  rw [ByteArray.data_extract]
  apply Array.ext
  · simp
  · intro i h1 h2
    simp
theorem slice_from (t : List UInt8) (i : Int) (k : Nat) (hi : i = k) (hk : k ≤ t.length) (w : World) : (Instr.slice 9 (.string ⟨t.toArray⟩) (some (.int .i64 i)) none none).run Tryz.prog w = .ok (.string ⟨(t.drop k).toArray⟩) w := by
  subst hi
  rw [run_slice_string_from_if (P := Tryz.prog) w 9 ⟨t.toArray⟩ .i64 k Tryz.underlying9]
  rw [if_pos ⟨by omega, by simp [ByteArray.size]; omega⟩, show (k : Int).toNat = k by omega, show (⟨t.toArray⟩ : ByteArray).size = t.length by simp [ByteArray.size], extract_from t k]
theorem sp_stop {l : List UInt8} {k : Nat} (h1 : Pl.sp (l.drop k) = Pl.sp l) (h2 : 0 < k → l.head? = some 32) (h3 : ∀ h : k < l.length, l[k] ≠ 32) : l.drop k = Pl.sp l ∧ decide (0 < k) = (l.head? == some 32) := by
  constructor
  · rw [← h1]
    by_cases h : k < l.length
    · rw [List.drop_eq_getElem_cons h, Pl.sp_cons _ (h3 h)]
    · rw [List.drop_eq_nil_of_le (by omega)]; rfl
  · by_cases h0 : 0 < k
    · rw [h2 h0]; simp [h0]
    · obtain rfl : k = 0 := by omega
      cases l with
      | nil => rfl
      | cons b r =>
        have := h3 (by simp)
        simpa using this

set_option maxHeartbeats 1000000 in
theorem spaces_any (l : List UInt8) (w : World) (hl : l.length ≤ 100) :
    Calls Tryz.prog 43 #[.string ⟨l.toArray⟩] w fun e w' => e = .returned (.tuple #[.string ⟨(Pl.sp l).toArray⟩, .bool (l.head? == some 32)]) ∧ w' = w := by
  go_enter Tryz.func43, Tryz.ntmps43
  go_wp2
  go_loop [4] (fun n => ∃ k : Nat, k ≤ l.length ∧ n = .int .i64 k ∧ Pl.sp (l.drop k) = Pl.sp l ∧ (0 < k → l.head? = some 32)) (fun n => l.length - (intOf n).toNat)
  case atStart => exact ⟨0, Nat.zero_le _, rfl, rfl, by omega⟩
  case round =>
    obtain ⟨k, hk, rfl, hs, hh⟩ := hrel
    have HS := hid (And.intro hs hh)
    clear hs hh
    by_cases hlt : k < l.length
    · have hix := index_one l k hlt w
      by_cases h32 : l[k] = 32
      · have hb : ((l[k].toNat : Int) == 32) = true := by rw [h32]; rfl
        have H32 := hid h32
        clear h32
        go_wp2
        go_round
        case rel =>
          have hd : l.drop k = 32 :: l.drop (k + 1) := by rw [List.drop_eq_getElem_cons hlt, H32.out]
          refine ⟨k + 1, by omega, by go_num, ?_, ?_⟩
          · rw [← HS.out.1, hd, Pl.sp_cons32]
          · intro _
            by_cases h0 : k = 0
            · subst h0
              rw [List.drop_zero] at hd
              rw [hd]; rfl
            · exact HS.out.2 (by omega)
        case measure => simp [intOf]; omega
      · have hb : ((l[k].toNat : Int) == 32) = false := by
          rw [beq_eq_false_iff_ne]
          intro e
          apply h32
          apply UInt8.toNat_inj.1
          have : (32 : UInt8).toNat = 32 := rfl
          omega
        have H32 := hid h32
        clear h32
        have hsl := slice_from l k k rfl (by omega) w
        have hst := sp_stop HS.out.1 HS.out.2 (fun _ => H32.out)
        rw [hst.1] at hsl
        have HD := hid hst.2
        clear hst
        go_wp2
        go_ret2
        exact ⟨by simp; exact HD.out, rfl⟩
    · have hsl := slice_from l k k rfl (by omega) w
      have hst := sp_stop HS.out.1 HS.out.2 (fun h => absurd h hlt)
      rw [hst.1] at hsl
      have HD := hid hst.2
      clear hst
      go_wp2
      go_ret2
      exact ⟨by simp; exact HD.out, rfl⟩

/-! ### digits -/
theorem bytes_one (w : World) (u : Int) (h0 : 0 ≤ u) (h9 : u < 10) : (convert 25 9 (.slice (some ⟨w.heap.size, 0, none⟩) 1 1)).run Tryz.prog (w.alloc (.cells #[.int .u8 (48 + u)] 5)) = .ok (.string ⟨#[UInt8.ofNat (48 + u.toNat)]⟩) (w.alloc (.cells #[.int .u8 (48 + u)] 5)) := by
  have hn : (UInt8.ofNat (48 + u.toNat)).toNat = 48 + u.toNat := by simp; omega
  have := run_convert_bytes_back (P := Tryz.prog) (w.alloc (.cells #[.int .u8 (48 + u)] 5)) 25 9 5 ⟨w.heap.size, 0, none⟩ 1 [UInt8.ofNat (48 + u.toNat)] Tryz.underlying25 Tryz.underlying5 Tryz.underlying9 (by
    intro j hj
    have h0' : j = 0 := by simp at hj; omega
    subst h0'
    simp only [List.getElem_cons_zero, hn]
    simp [Addr.add]
    omega)
  simpa using this

set_option maxHeartbeats 1000000 in
set_option maxRecDepth 1000000 in
theorem digits_any (n : Int) (w : World) (h0 : 0 ≤ n) (h9 : n ≤ 9999) :
    Calls Tryz.prog 95 #[.int .i64 n] w fun e w' => e = .returned (.string ⟨(decDigits n.toNat).toArray⟩) ∧ Below w.heap.size w w' := by
  go_enter Tryz.func95, Tryz.ntmps95
  go_wp2
  go_loopw [0, 3] (fun m s wr => ∃ (u : Nat) (acc : List UInt8), u ≤ 9999 ∧ m = .int .i64 u ∧ s = .string ⟨acc.toArray⟩ ∧ Hid (decDigits u ++ acc = decDigits n.toNat ∧ Below w.heap.size w wr)) (fun m _ _ => (intOf m).toNat)
  case atStart => exact ⟨n.toNat, [], by omega, by go_num, rfl, by simp, Below.refl _ _⟩
  case round =>
    obtain ⟨u, acc, hu, rfl, rfl, hr⟩ := hrel
    have ha : acc.length ≤ 4 := by
      have h1 := congrArg List.length hr.out.1
      have h2 := Pl.decDigits_length n.toNat (by omega)
      rw [List.length_append] at h1
      omega
    by_cases h10 : 9 < u
    · have h10' : (9 : Int) < (u : Int) := by omega
      have hcv := bytes_one wr ((u : Int) % 10) (by omega) (by omega)
      go_wp2
      go_roundw
      case rel =>
        refine ⟨u / 10, [UInt8.ofNat (48 + u % 10)] ++ acc, by omega, by go_num, ?_, ?_, hr.out.2.alloc hr.out.2.size _⟩
        · rw [ByteArray.mk_append_mk]
          simp
        · rw [← hr.out.1]
          rw [show decDigits u = decDigits (u / 10) ++ [UInt8.ofNat (48 + u % 10)] by rw [decDigits, dif_neg (by omega)]]
          simp
      case measure => simp [intOf]; omega
    · have h10' : ¬ (9 : Int) < (u : Int) := by omega
      have hcv := bytes_one wr (u : Int) (by omega) (by omega)
      go_wp2
      go_ret
      refine ⟨?_, hr.out.2.alloc hr.out.2.size _⟩
      rw [← hr.out.1, show decDigits u = [UInt8.ofNat (48 + u)] by rw [decDigits, dif_pos (by omega)]]
      simp [ByteArray.mk_append_mk]

end Go.Proofs.YtfldcmdhneegmaaGreatDoor

/-
  package spotterref's WALKS, 2: window.
-/
namespace Go.Proofs.YtfldcmdhneegmaaGreatDoor
open Go.RowKit Go.Lib

theorem num_snoc (l : List UInt8) (b : UInt8) : Pl.numOf (l ++ [b]) = 10 * Pl.numOf l + ((b.toNat : Int) - 48) := by simp [Pl.numOf]
theorem digs_more (f : Nat) (t : List UInt8) (k : Nat) (hk : k < t.length) (hd : Pl.isDig t[k] = true) : Pl.digs (f + 1) (t.drop k) = Pl.digs f (t.drop (k + 1)) + 1 := by
  rw [List.drop_eq_getElem_cons hk]
  simp [Pl.digs, hd]
theorem digs_stop (f : Nat) (t : List UInt8) (k : Nat) (h : ∀ hk : k < t.length, Pl.isDig t[k] = false) : Pl.digs f (t.drop k) = 0 := by
  cases f with
  | zero => rfl
  | succ f =>
    by_cases hk : k < t.length
    · rw [List.drop_eq_getElem_cons hk]
      simp [Pl.digs, h hk]
    · rw [List.drop_eq_nil_of_le (by omega)]
      rfl

/-- What window's loop carries. -/
structure WRel (t : List UInt8) (k : Nat) : Prop where
  le : k ≤ t.length
  le5 : k ≤ 5
  digs : Pl.digs 5 t = k + Pl.digs (5 - k) (t.drop k)
  lo : 0 ≤ Pl.numOf (t.take k)
  hi : Pl.numOf (t.take k) < 10 ^ k

theorem wrel_zero (t : List UInt8) : WRel t 0 := ⟨Nat.zero_le _, by omega, by simp, by simp [Pl.numOf], by simp [Pl.numOf]⟩
theorem wrel_succ {t : List UInt8} {k : Nat} (h : WRel t k) (hk : k < t.length) (h5 : k < 5) (hd : Pl.isDig t[k] = true) : WRel t (k + 1) ∧ Pl.numOf (t.take (k + 1)) = 10 * Pl.numOf (t.take k) + ((t[k].toNat : Int) - 48) := by
  have e : Pl.numOf (t.take (k + 1)) = 10 * Pl.numOf (t.take k) + ((t[k].toNat : Int) - 48) := by rw [Pl.take_snoc t k hk, num_snoc]
  obtain ⟨_, _, h3, h4⟩ := Pl.dig_take hd
  refine ⟨⟨by omega, by omega, ?_, ?_, ?_⟩, e⟩
  · rw [h.digs, show 5 - k = (5 - (k + 1)) + 1 by omega, digs_more _ t k hk hd]
    omega
  · rw [e]; have := h.lo; omega
  · rw [e, Int.pow_succ]; have := h.hi; omega
theorem wrel_stop {t : List UInt8} {k : Nat} (h : WRel t k) (hs : k = 5 ∨ ∀ hk : k < t.length, Pl.isDig t[k] = false) : Pl.digs 5 t = k := by
  rw [h.digs]
  rcases hs with rfl | hs
  · rfl
  · rw [digs_stop _ t k hs]; omega
theorem wrel_bound {t : List UInt8} {k : Nat} (h : WRel t k) : Pl.numOf (t.take k) < 100000 := by
  have h1 := h.hi
  have h2 := h.le5
  match k, h2, h1 with
  | 0, _, h1 => omega
  | 1, _, h1 => omega
  | 2, _, h1 => omega
  | 3, _, h1 => omega
  | 4, _, h1 => omega
  | 5, _, h1 => omega

theorem index_zero (t : List UInt8) (h : 0 < t.length) (w : World) : (Instr.index 9 (.string ⟨t.toArray⟩) (.int .i64 0)).run Tryz.prog w = .ok (.int .u8 t[0].toNat) w := index_one t 0 h w
theorem head_zero (t : List UInt8) (h : 0 < t.length) : t.head? = some t[0] := by
  cases t with
  | nil => simp at h
  | cons b r => rfl
theorem ne48 {b : UInt8} (h : b ≠ 48) : ((b.toNat : Int) == 48) = false := by
  rw [beq_eq_false_iff_ne]
  intro e
  apply h
  apply UInt8.toNat_inj.1
  have : (48 : UInt8).toNat = 48 := rfl
  omega

set_option maxHeartbeats 8000000 in
set_option maxRecDepth 1000000 in
theorem window_any (l : List UInt8) (w : World) (hl : l.length ≤ 100) :
    Calls Tryz.prog 46 #[.string ⟨l.toArray⟩] w fun e w' => e = .returned (.int .i64 (Pl.winOf l)) ∧ w' = w := by
  have hsl := Pl.sp_length l
  have HC := hid (spaces_any l w hl)
  have HWn : Hid (Pl.winOf l = if Pl.digs 5 (Pl.sp l) = 0 ∨ 4 < Pl.digs 5 (Pl.sp l) ∨ (1 < Pl.digs 5 (Pl.sp l) ∧ (Pl.sp l).head? = some 48) ∨ Pl.sp ((Pl.sp l).drop (Pl.digs 5 (Pl.sp l))) ≠ [] then -1 else Pl.numOf ((Pl.sp l).take (Pl.digs 5 (Pl.sp l)))) := rfl
  generalize Pl.winOf l = res at HWn ⊢
  generalize Pl.sp l = t at HC hsl HWn
  have htl : t.length ≤ 100 := by omega
  clear hsl
  go_enter Tryz.func46, Tryz.ntmps46
  go_wp2_with (go_at_call 43; refine HC.out.mono ?_; rintro e w' ⟨rfl, rfl⟩)
  clear HC
  go_loop [3, 4] (fun n i => ∃ k : Nat, i = .int .i64 k ∧ n = .int .i64 (Pl.numOf (t.take k)) ∧ Hid (WRel t k)) (fun _ i => t.length - (intOf i).toNat)
  case atStart => exact ⟨0, rfl, by simp [Pl.numOf], wrel_zero t⟩
  case round =>
    obtain ⟨k, rfl, rfl, hr⟩ := hrel
    have hb := wrel_bound hr.out
    have hlo := hr.out.lo
    have hkl := hr.out.le
    have hk5 := hr.out.le5
    generalize hnn : Pl.numOf (t.take k) = nn at hb hlo
    have HN := hid hnn
    clear hnn
    by_cases hgo : k < 5 ∧ ∃ hk : k < t.length, Pl.isDig t[k] = true
    · obtain ⟨h5, hk, hd⟩ := hgo
      have hix := index_one t k hk w'
      obtain ⟨d1, d2, d3, d4⟩ := Pl.dig_take hd
      have h5' : (k : Int) < 5 := by omega
      have HD := hid hd
      clear hd d2
      go_wp2
      go_round
      case rel =>
        obtain ⟨r1, r2⟩ := wrel_succ hr.out hk h5 HD.out
        refine ⟨k + 1, by go_num, ?_, r1⟩
        rw [r2, HN.out]
      case measure => simp [intOf]; omega
    · have hstop : k = 5 ∨ ∀ hk : k < t.length, Pl.isDig t[k] = false := by
        by_cases h5 : k = 5
        · exact Or.inl h5
        · right
          intro hk
          cases hd : Pl.isDig t[k] with
          | false => rfl
          | true => exact absurd ⟨by omega, hk, hd⟩ hgo
      have hdg := wrel_stop hr.out hstop
      have HG := hid hdg
      have HST := hid hstop
      clear hgo hstop hdg
      have HC := hid (spaces_any (t.drop k) w' (by rw [List.length_drop]; omega))
      have hsf := slice_from t k k rfl hkl w'
      have hsl := Pl.sp_length (t.drop k)
      generalize hrs : Pl.sp (t.drop k) = rs at HC hsl
      have HRS := hid hrs
      clear hrs
      have hfin := HWn.out
      rw [HG.out, HRS.out, HN.out] at hfin
      have HF := hid hfin
      clear hfin HWn HG HRS HN hr
      have hex : (¬ k < t.length) ∨ (∃ _hk : k < t.length, (t[k].toNat : Int) < 48) ∨ (∃ _hk : k < t.length, (57 : Int) < (t[k].toNat : Int)) ∨ (∃ _hk : k < t.length, k = 5 ∧ (48 : Int) ≤ (t[k].toNat : Int) ∧ (t[k].toNat : Int) ≤ 57) := by
        by_cases hk : k < t.length
        · by_cases c1 : (t[k].toNat : Int) < 48
          · exact Or.inr (Or.inl ⟨hk, c1⟩)
          · by_cases c2 : (57 : Int) < (t[k].toNat : Int)
            · exact Or.inr (Or.inr (Or.inl ⟨hk, c2⟩))
            · refine Or.inr (Or.inr (Or.inr ⟨hk, ?_, by omega, by omega⟩))
              rcases HST.out with h | h
              · exact h
              · have := h hk
                have hd : Pl.isDig t[k] = true := by unfold Pl.isDig; exact decide_eq_true (by omega)
                rw [hd] at this; cases this
        · exact Or.inl hk
      clear HST
      rcases hex with hk | ⟨hk, hc⟩ | ⟨hk, hc⟩ | ⟨hk, h5, hc1, hc2⟩
      · skip
        by_cases hk0 : k = 0
        · have hk0' : ((k : Int) == 0) = true := by simpa using hk0
          have HK0 := hid hk0
          clear hk0
          go_wp2_with (go_at_call 43; refine HC.out.mono ?_; rintro e w2 ⟨rfl, hw2⟩; have HW2 := hid hw2; clear hw2)
          go_ret
          rw [HW2.out]
          exact ⟨by rw [HF.out]; simp [HK0.out], rfl⟩
        · have hk0' : ((k : Int) == 0) = false := by simpa using hk0
          by_cases h4 : 4 < k
          · have h4' : (4 : Int) < (k : Int) := by omega
            go_wp2_with (go_at_call 43; refine HC.out.mono ?_; rintro e w2 ⟨rfl, hw2⟩; have HW2 := hid hw2; clear hw2)
            go_ret
            rw [HW2.out]
            exact ⟨by rw [HF.out]; simp [h4], rfl⟩
          · have h4' : ¬ (4 : Int) < (k : Int) := by omega
            by_cases h1 : 1 < k
            · have h1' : (1 : Int) < (k : Int) := by omega
              have ht0 : 0 < t.length := by omega
              have hp0 : 0 < (⟨t.toArray⟩ : ByteArray).size := by simp [ByteArray.size]; omega
              have hh := head_zero t ht0
              by_cases h48 : t[0] = 48
              · have hb0 : ((((⟨t.toArray⟩ : ByteArray)[0]'hp0).toNat : Int) == 48) = true := by rw [show (⟨t.toArray⟩ : ByteArray)[0]'hp0 = t[0] from rfl, h48]; rfl
                have H48 := hid (And.intro h48 hh)
                clear h48 hh
                go_wp2_with (go_at_call 43; refine HC.out.mono ?_; rintro e w2 ⟨rfl, hw2⟩; have HW2 := hid hw2; clear hw2)
                go_ret
                rw [HW2.out]
                exact ⟨by rw [HF.out, H48.out.2, H48.out.1]; simp [h1], rfl⟩
              · have hb0 : ((((⟨t.toArray⟩ : ByteArray)[0]'hp0).toNat : Int) == 48) = false := ne48 h48
                have H48 := hid (And.intro h48 hh)
                clear h48 hh
                cases hrs : rs with
                | nil =>
                  have HRS := hid hrs
                  subst hrs
                  go_wp2_with (go_at_call 43; refine HC.out.mono ?_; rintro e w2 ⟨rfl, hw2⟩; have HW2 := hid hw2; clear hw2)
                  go_ret
                  rw [HW2.out]
                  refine ⟨?_, rfl⟩
                  rw [HF.out, H48.out.2, if_neg (by simp [H48.out.1]; omega)]
                  rfl
                | cons c rs' =>
                  subst hrs
                  go_wp2_with (go_at_call 43; refine HC.out.mono ?_; rintro e w2 ⟨rfl, hw2⟩; have HW2 := hid hw2; clear hw2)
                  go_ret
                  rw [HW2.out]
                  refine ⟨?_, rfl⟩
                  rw [HF.out, if_pos (by simp)]
                  rfl
            · have h1' : ¬ (1 : Int) < (k : Int) := by omega
              cases hrs : rs with
              | nil =>
                subst hrs
                go_wp2_with (go_at_call 43; refine HC.out.mono ?_; rintro e w2 ⟨rfl, hw2⟩; have HW2 := hid hw2; clear hw2)
                go_ret
                rw [HW2.out]
                refine ⟨?_, rfl⟩
                rw [HF.out, if_neg (by simp; omega)]
                rfl
              | cons c rs' =>
                subst hrs
                go_wp2_with (go_at_call 43; refine HC.out.mono ?_; rintro e w2 ⟨rfl, hw2⟩; have HW2 := hid hw2; clear hw2)
                go_ret
                rw [HW2.out]
                refine ⟨?_, rfl⟩
                rw [HF.out, if_pos (by simp)]
                rfl
      · have hix := index_one t k hk w'
        have hc' : ¬ (48 : Int) ≤ (t[k].toNat : Int) := by omega
        by_cases hk0 : k = 0
        · have hk0' : ((k : Int) == 0) = true := by simpa using hk0
          have HK0 := hid hk0
          clear hk0
          go_wp2_with (go_at_call 43; refine HC.out.mono ?_; rintro e w2 ⟨rfl, hw2⟩; have HW2 := hid hw2; clear hw2)
          go_ret
          rw [HW2.out]
          exact ⟨by rw [HF.out]; simp [HK0.out], rfl⟩
        · have hk0' : ((k : Int) == 0) = false := by simpa using hk0
          by_cases h4 : 4 < k
          · have h4' : (4 : Int) < (k : Int) := by omega
            go_wp2_with (go_at_call 43; refine HC.out.mono ?_; rintro e w2 ⟨rfl, hw2⟩; have HW2 := hid hw2; clear hw2)
            go_ret
            rw [HW2.out]
            exact ⟨by rw [HF.out]; simp [h4], rfl⟩
          · have h4' : ¬ (4 : Int) < (k : Int) := by omega
            by_cases h1 : 1 < k
            · have h1' : (1 : Int) < (k : Int) := by omega
              have ht0 : 0 < t.length := by omega
              have hp0 : 0 < (⟨t.toArray⟩ : ByteArray).size := by simp [ByteArray.size]; omega
              have hh := head_zero t ht0
              by_cases h48 : t[0] = 48
              · have hb0 : ((((⟨t.toArray⟩ : ByteArray)[0]'hp0).toNat : Int) == 48) = true := by rw [show (⟨t.toArray⟩ : ByteArray)[0]'hp0 = t[0] from rfl, h48]; rfl
                have H48 := hid (And.intro h48 hh)
                clear h48 hh
                go_wp2_with (go_at_call 43; refine HC.out.mono ?_; rintro e w2 ⟨rfl, hw2⟩; have HW2 := hid hw2; clear hw2)
                go_ret
                rw [HW2.out]
                exact ⟨by rw [HF.out, H48.out.2, H48.out.1]; simp [h1], rfl⟩
              · have hb0 : ((((⟨t.toArray⟩ : ByteArray)[0]'hp0).toNat : Int) == 48) = false := ne48 h48
                have H48 := hid (And.intro h48 hh)
                clear h48 hh
                cases hrs : rs with
                | nil =>
                  have HRS := hid hrs
                  subst hrs
                  go_wp2_with (go_at_call 43; refine HC.out.mono ?_; rintro e w2 ⟨rfl, hw2⟩; have HW2 := hid hw2; clear hw2)
                  go_ret
                  rw [HW2.out]
                  refine ⟨?_, rfl⟩
                  rw [HF.out, H48.out.2, if_neg (by simp [H48.out.1]; omega)]
                  rfl
                | cons c rs' =>
                  subst hrs
                  go_wp2_with (go_at_call 43; refine HC.out.mono ?_; rintro e w2 ⟨rfl, hw2⟩; have HW2 := hid hw2; clear hw2)
                  go_ret
                  rw [HW2.out]
                  refine ⟨?_, rfl⟩
                  rw [HF.out, if_pos (by simp)]
                  rfl
            · have h1' : ¬ (1 : Int) < (k : Int) := by omega
              cases hrs : rs with
              | nil =>
                subst hrs
                go_wp2_with (go_at_call 43; refine HC.out.mono ?_; rintro e w2 ⟨rfl, hw2⟩; have HW2 := hid hw2; clear hw2)
                go_ret
                rw [HW2.out]
                refine ⟨?_, rfl⟩
                rw [HF.out, if_neg (by simp; omega)]
                rfl
              | cons c rs' =>
                subst hrs
                go_wp2_with (go_at_call 43; refine HC.out.mono ?_; rintro e w2 ⟨rfl, hw2⟩; have HW2 := hid hw2; clear hw2)
                go_ret
                rw [HW2.out]
                refine ⟨?_, rfl⟩
                rw [HF.out, if_pos (by simp)]
                rfl
      · have hix := index_one t k hk w'
        have hc' : (48 : Int) ≤ (t[k].toNat : Int) := by omega
        have hc2 : ¬ (t[k].toNat : Int) ≤ 57 := by omega
        by_cases hk0 : k = 0
        · have hk0' : ((k : Int) == 0) = true := by simpa using hk0
          have HK0 := hid hk0
          clear hk0
          go_wp2_with (go_at_call 43; refine HC.out.mono ?_; rintro e w2 ⟨rfl, hw2⟩; have HW2 := hid hw2; clear hw2)
          go_ret
          rw [HW2.out]
          exact ⟨by rw [HF.out]; simp [HK0.out], rfl⟩
        · have hk0' : ((k : Int) == 0) = false := by simpa using hk0
          by_cases h4 : 4 < k
          · have h4' : (4 : Int) < (k : Int) := by omega
            go_wp2_with (go_at_call 43; refine HC.out.mono ?_; rintro e w2 ⟨rfl, hw2⟩; have HW2 := hid hw2; clear hw2)
            go_ret
            rw [HW2.out]
            exact ⟨by rw [HF.out]; simp [h4], rfl⟩
          · have h4' : ¬ (4 : Int) < (k : Int) := by omega
            by_cases h1 : 1 < k
            · have h1' : (1 : Int) < (k : Int) := by omega
              have ht0 : 0 < t.length := by omega
              have hp0 : 0 < (⟨t.toArray⟩ : ByteArray).size := by simp [ByteArray.size]; omega
              have hh := head_zero t ht0
              by_cases h48 : t[0] = 48
              · have hb0 : ((((⟨t.toArray⟩ : ByteArray)[0]'hp0).toNat : Int) == 48) = true := by rw [show (⟨t.toArray⟩ : ByteArray)[0]'hp0 = t[0] from rfl, h48]; rfl
                have H48 := hid (And.intro h48 hh)
                clear h48 hh
                go_wp2_with (go_at_call 43; refine HC.out.mono ?_; rintro e w2 ⟨rfl, hw2⟩; have HW2 := hid hw2; clear hw2)
                go_ret
                rw [HW2.out]
                exact ⟨by rw [HF.out, H48.out.2, H48.out.1]; simp [h1], rfl⟩
              · have hb0 : ((((⟨t.toArray⟩ : ByteArray)[0]'hp0).toNat : Int) == 48) = false := ne48 h48
                have H48 := hid (And.intro h48 hh)
                clear h48 hh
                cases hrs : rs with
                | nil =>
                  have HRS := hid hrs
                  subst hrs
                  go_wp2_with (go_at_call 43; refine HC.out.mono ?_; rintro e w2 ⟨rfl, hw2⟩; have HW2 := hid hw2; clear hw2)
                  go_ret
                  rw [HW2.out]
                  refine ⟨?_, rfl⟩
                  rw [HF.out, H48.out.2, if_neg (by simp [H48.out.1]; omega)]
                  rfl
                | cons c rs' =>
                  subst hrs
                  go_wp2_with (go_at_call 43; refine HC.out.mono ?_; rintro e w2 ⟨rfl, hw2⟩; have HW2 := hid hw2; clear hw2)
                  go_ret
                  rw [HW2.out]
                  refine ⟨?_, rfl⟩
                  rw [HF.out, if_pos (by simp)]
                  rfl
            · have h1' : ¬ (1 : Int) < (k : Int) := by omega
              cases hrs : rs with
              | nil =>
                subst hrs
                go_wp2_with (go_at_call 43; refine HC.out.mono ?_; rintro e w2 ⟨rfl, hw2⟩; have HW2 := hid hw2; clear hw2)
                go_ret
                rw [HW2.out]
                refine ⟨?_, rfl⟩
                rw [HF.out, if_neg (by simp; omega)]
                rfl
              | cons c rs' =>
                subst hrs
                go_wp2_with (go_at_call 43; refine HC.out.mono ?_; rintro e w2 ⟨rfl, hw2⟩; have HW2 := hid hw2; clear hw2)
                go_ret
                rw [HW2.out]
                refine ⟨?_, rfl⟩
                rw [HF.out, if_pos (by simp)]
                rfl
      · have hix := index_one t k hk w'
        have hk0' : ((k : Int) == 0) = false := by simp; omega
        have h4' : (4 : Int) < (k : Int) := by omega
        have h5' : ¬ (k : Int) < 5 := by omega
        have H5 := hid h5
        clear h5
        go_wp2_with (go_at_call 43; refine HC.out.mono ?_; rintro e w2 ⟨rfl, hw2⟩; have HW2 := hid hw2; clear hw2)
        go_ret
        rw [HW2.out]
        exact ⟨by rw [HF.out]; simp [H5.out], rfl⟩

end Go.Proofs.YtfldcmdhneegmaaGreatDoor

/-
  package spotterref's WALKS, 3: Text.
-/
namespace Go.Proofs.YtfldcmdhneegmaaGreatDoor
open Go.RowKit Go.Lib

theorem encode_eq (c : Int) (hv : Pl.Valid c) : Utf8.encode c = ⟨(encodeRune c).toArray⟩ := by
  obtain ⟨n, rfl⟩ : ∃ n : Nat, c = n := ⟨c.toNat, by rcases hv with h | h <;> omega⟩
  unfold Pl.Valid at hv
  have hval : Utf8.valid (n : Int) = true := by
    unfold Utf8.valid
    simp
    omega
  unfold Utf8.encode
  rw [if_pos hval]
  simp only [Int.toNat_natCast]
  by_cases c1 : n < 128
  · rw [if_pos c1]
    unfold encodeRune
    rw [encodeRuneZ_one (by omega) (by omega)]
    rfl
  by_cases c2 : n < 2048
  · rw [if_neg c1, if_pos c2]
    unfold encodeRune
    rw [encodeRuneZ_two (by omega) (by omega)]
    simp only [List.map_cons, List.map_nil]
    rw [show ((192 + (n : Int) / 64)).toNat = 192 + n / 64 by omega, show ((128 + (n : Int) % 64)).toNat = 128 + n % 64 by omega]
  by_cases c3 : n < 65536
  · rw [if_neg c1, if_neg c2, if_pos c3]
    unfold encodeRune
    rw [encodeRuneZ_three (by omega)]
    simp only [List.map_cons, List.map_nil]
    rw [show ((224 + (n : Int) / 4096)).toNat = 224 + n / 4096 by omega, show ((128 + (n : Int) / 64 % 64)).toNat = 128 + n / 64 % 64 by omega, show ((128 + (n : Int) % 64)).toNat = 128 + n % 64 by omega]
  · rw [if_neg c1, if_neg c2, if_neg c3]
    unfold encodeRune
    rw [encodeRuneZ_four (by omega) (by omega)]
    simp only [List.map_cons, List.map_nil]
    rw [show ((240 + (n : Int) / 262144)).toNat = 240 + n / 262144 by omega, show ((128 + (n : Int) / 4096 % 64)).toNat = 128 + n / 4096 % 64 by omega, show ((128 + (n : Int) / 64 % 64)).toNat = 128 + n / 64 % 64 by omega, show ((128 + (n : Int) % 64)).toNat = 128 + n % 64 by omega]

theorem own_stepR {w : World} {base g cap : Nat} {l : List (Int × Bool)} (h : w.ownsRow base 104 2 (.slice (some ⟨g, 0, none⟩) l.length cap) l.length (stepCells l)) (k : Nat) (hk : k < l.length) :
    w.cell? ⟨g, k * 2, none⟩ = some (.int .i32 l[k].1) ∧ w.cell? ⟨g, k * 2 + 1, none⟩ = some (.bool l[k].2) := by
  have e : ∀ (l : List (Int × Bool)) (k : Nat) (hk : k < l.length), (stepCells l)[k * 2]? = some (.int .i32 l[k].1) ∧ (stepCells l)[k * 2 + 1]? = some (.bool l[k].2) := by
    intro l
    induction l with
    | nil => intro k hk; simp at hk
    | cons x r ih =>
      intro k hk
      cases k with
      | zero => exact ⟨rfl, rfl⟩
      | succ k =>
        have := ih k (by simpa using hk)
        have e1 : (k + 1) * 2 = k * 2 + 1 + 1 := by omega
        rw [e1]
        exact this
  exact ⟨(h.cellAt (k * 2) (by omega)).trans (e l k hk).1, (h.cellAt (k * 2 + 1) (by omega)).trans (e l k hk).2⟩

set_option maxHeartbeats 4000000 in
set_option maxRecDepth 1000000 in
theorem refText_any (l : List (Int × Bool)) (win : Int) (v : Value) (base b : Nat) (w : World) (hf : Pl.Fine l win) (hown : w.ownsRow base 104 2 v l.length (stepCells l)) (hb : w.heap[b]? = some (.cells #[v, .int .i64 win] 99 (0, 0))) :
    Calls Tryz.prog 52 #[.pointer (some ⟨b, 0, none⟩)] w fun e w' => e = .returned (.string ⟨(Pl.text l win).toArray⟩) ∧ Below w.heap.size w w' := by
  obtain ⟨hne, h4, hw0, hw9, hlt⟩ := hf
  obtain ⟨g, cap, rfl⟩ : ∃ g cap, v = .slice (some ⟨g, 0, none⟩) l.length cap := by
    rcases hown.2 with ⟨_, h0⟩ | ⟨g, cap, cur, hv, _⟩
    · exact absurd (List.length_eq_zero_iff.1 h0) hne
    · exact ⟨g, cap, hv⟩
  obtain ⟨b0, b1, _, _⟩ := res_cells hb
  have HO := hid hown
  have HB := hid hlt
  have HD := hid (digits_any win w hw0 hw9)
  clear hown hlt hb
  have hn1 : 1 ≤ l.length := List.length_pos_iff.2 hne
  go_enter Tryz.func52, Tryz.ntmps52
  go_wp2
  go_loop [3, 4] (fun s i => ∃ k : Nat, k ≤ l.length ∧ i = .int .i64 k ∧ s = .string ⟨(Pl.stepsText (l.take k)).toArray⟩) (fun _ i => l.length - (intOf i).toNat)
  case atStart => exact ⟨0, Nat.zero_le _, rfl, rfl⟩
  case round =>
    obtain ⟨k, hk, rfl, rfl⟩ := hrel
    have hlen : (Pl.stepsText (l.take k)).length ≤ 24 := by
      have h1 := Pl.stepsText_length (l.take k)
      have h2 : (l.take k).length ≤ 4 := Nat.le_trans (List.length_take_le _ _) (by omega)
      omega
    by_cases hlt : k < l.length
    · obtain ⟨s0, s1⟩ := own_stepR HO.out k hlt
      have hval := (HB.out l[k] (List.getElem_mem hlt)).2
      have henc := encode_eq l[k].1 hval
      have hel := (Pl.encodeRune_length l[k].1).2
      clear hval
      cases hm : l[k].2
      · rw [hm] at s1
        have HM := hid hm
        clear hm
        go_wp2
        go_round
        case rel =>
          refine ⟨k + 1, by omega, by go_num, ?_⟩
          rw [Pl.take_snoc l k hlt, Pl.stepsText_snoc]
          simp only [ByteArray.mk_append_mk]
          simp [Pl.stepText, HM.out]
        case measure => simp [intOf]; omega
      · rw [hm] at s1
        have HM := hid hm
        clear hm
        go_wp2
        go_round
        case rel =>
          refine ⟨k + 1, by omega, by go_num, ?_⟩
          rw [Pl.take_snoc l k hlt, Pl.stepsText_snoc]
          simp only [ByteArray.mk_append_mk]
          simp [Pl.stepText, HM.out]
        case measure => simp [intOf]; omega
    · obtain rfl : k = l.length := by omega
      have hl4 := Pl.decDigits_length win.toNat (by omega)
      rw [List.take_length] at hlen ⊢
      go_wp2_with (go_at_call 95; refine HD.out.mono ?_; rintro e w' ⟨rfl, hbb⟩; have HBB := hid hbb; clear hbb)
      go_ret
      refine ⟨?_, HBB.out⟩
      simp only [ByteArray.mk_append_mk]
      simp [Pl.text, Pl.itoa_eq win hw0]

end Go.Proofs.YtfldcmdhneegmaaGreatDoor

/-
  package spotterref's WALKS, 4: Parse: the parts.
-/
namespace Go.Proofs.YtfldcmdhneegmaaGreatDoor
open Go.RowKit Go.Lib

theorem Tryz.infoRefStep : (Tryz.prog.info? 104).map (fun i => (i.zero, i.size, i.bytes)) = some (some (.agg #[.int .i32 0, .bool false]), 2, 8) := by kernel_rfl

/-- The pattern that is built: its block is the first that the call makes; its steps are a row of the call's own. -/
structure PRel (w wr : World) (acc : List (Int × Bool)) (v : Value) (win : Int) : Prop where
  blk : wr.heap[w.heap.size]? = some (.cells #[v, .int .i64 win] 99 (0, 0))
  own : wr.ownsRow (w.heap.size + 1) 104 2 v acc.length (stepCells acc)
  bel : Below w.heap.size w wr

theorem PRel.lt {w wr : World} {acc : List (Int × Bool)} {v : Value} {win : Int} (h : PRel w wr acc v win) : w.heap.size < wr.heap.size := lt_of_block h.blk
theorem prel_start (w : World) : PRel w (w.alloc (.cells #[.slice none 0 0, .int .i64 0] 99)) [] (.slice none 0 0) 0 :=
  ⟨heap_alloc_new w _, World.ownsRow_nil _ _ _ _, (Below.refl _ w).alloc (Nat.le_refl _) _⟩
theorem PRel.below {w wr w2 : World} {acc : List (Int × Bool)} {v : Value} {win : Int} (h : PRel w wr acc v win) (hb : Below wr.heap.size wr w2) : PRel w w2 acc v win :=
  ⟨by rw [hb.block _ h.lt]; exact h.blk, own_below h.own hb, h.bel.trans (hb.mono (Nat.le_of_lt h.lt))⟩

theorem blk2_set {w : World} {b : Nat} {x y : Value} {t : TypeId} (h : w.heap[b]? = some (.cells #[x, y] t (0, 0))) (u : Value) :
    (w.setCell ⟨b, 0, none⟩ u).heap[b]? = some (.cells #[u, y] t (0, 0)) ∧ (w.setCell ⟨b, 1, none⟩ u).heap[b]? = some (.cells #[x, u] t (0, 0)) := by
  have hlt := lt_of_block h
  have h' : w.heap[b] = .cells #[x, y] t (0, 0) := by simpa [Array.getElem?_eq_getElem hlt] using h
  refine ⟨?_, ?_⟩
  all_goals
    show (w.heap.modify b _)[b]? = _
    rw [Array.getElem?_eq_getElem (by simpa using hlt), Array.getElem_modify_self, h']
    rfl

theorem PRel.grown {w w2 w3 : World} {acc : List (Int × Bool)} {v v' : Value} {win : Int} {c : Int} {p : Bool} {o : Obj} (h : PRel w w2 acc v win)
    (hown : w3.ownsRow (w.heap.size + 1) 104 2 v' (acc.length + 1) (stepCells acc ++ [.int .i32 c, .bool p])) (hg : (w2.alloc o).grownBy w3 v.ownBlock) :
    PRel w (w3.setCell ⟨w.heap.size, 0, none⟩ v') (acc ++ [(c, p)]) v' win ∧ w3.heap[w.heap.size]? = some (.cells #[v, .int .i64 win] 99 (0, 0)) := by
  have hlt := h.lt
  have hne : some w.heap.size ≠ v.ownBlock := fun e => by have := (own_block h.own _ e.symm).1; omega
  have hb1 : w3.heap[w.heap.size]? = some (.cells #[v, .int .i64 win] 99 (0, 0)) := by
    rw [hg.block _ (by simp; omega) hne, Below.heap_alloc _ _ _ hlt]; exact h.blk
  refine ⟨⟨(blk2_set hb1 v').1, ?_, ?_⟩, hb1⟩
  · have := ownsRow_setCell_below hown (a := ⟨w.heap.size, 0, none⟩) (by show w.heap.size < w.heap.size + 1; omega) v'
    simpa [stepCells] using this
  · exact ((h.bel.alloc (Nat.le_of_lt hlt) o).grown hg (by simp; omega) (fun k hk => by have := (own_block h.own k hk).1; omega)).setCell (Nat.le_refl _) _
theorem PRel.setWin {w wr : World} {acc : List (Int × Bool)} {v : Value} {win : Int} (h : PRel w wr acc v win) (x : Int) : PRel w (wr.setCell ⟨w.heap.size, 1, none⟩ (.int .i64 x)) acc v x :=
  ⟨(blk2_set h.blk _).2, ownsRow_setCell_below h.own (by show w.heap.size < w.heap.size + 1; omega) _, h.bel.setCell (Nat.le_refl _) _⟩

/-- How wide the first rune is at most. -/
theorem dec_le (b : UInt8) (r : List UInt8) : (Utf8.decode ⟨(b :: r).toArray⟩ 0).2 ≤ (b :: r).length := by
  rw [decode_at]
  have hs : (⟨(b :: r).toArray⟩ : ByteArray).size - 0 = (b :: r).length := by simp [ByteArray.size]
  rw [hs]
  have h1 : 1 ≤ (b :: r).length := by simp
  generalize (b :: r).length = n at h1
  unfold decodeN
  repeat' split
  all_goals (simp only []; omega)

def strLen : Value → Nat
  | .string s => s.size
  | _ => 0

/-- utf8's tables. -/
def Decodes (w : World) : Prop := Utf8Tabs 2 3 w
theorem Decodes.below {w w' : World} (h : Decodes w) (hb : Below w.heap.size w w') : Decodes w' :=
  ⟨fun c hc => cell_below hb (h.1 c hc), fun i hi => ⟨cell_below hb (h.2 i hi).1, cell_below hb (h.2 i hi).2⟩⟩

theorem decode_any (b : UInt8) (r : List UInt8) (W : World) (h : Decodes W) :
    Calls Tryz.prog 44 #[.string ⟨(b :: r).toArray⟩] W fun e w' => e = .returned (.tuple #[.int .i32 (Utf8.decode ⟨(b :: r).toArray⟩ 0).1, .int .i64 (Utf8.decode ⟨(b :: r).toArray⟩ 0).2]) ∧ Below W.heap.size W w' := by
  have := Tryz.utf8_DecodeRuneInString ⟨(b :: r).toArray⟩ W h
  rw [show decodeGo ⟨(b :: r).toArray⟩ = Utf8.decode ⟨(b :: r).toArray⟩ 0 by unfold decodeGo; rw [if_neg (by simp [ByteArray.size])]] at this
  exact this
theorem decode_nil (W : World) (h : Decodes W) :
    Calls Tryz.prog 44 #[.string ⟨([] : List UInt8).toArray⟩] W fun e w' => e = .returned (.tuple #[.int .i32 65533, .int .i64 0]) ∧ Below W.heap.size W w' := by
  have := Tryz.utf8_DecodeRuneInString ⟨([] : List UInt8).toArray⟩ W h
  exact this

/-- What Parse of a text gives. -/
def RefEnd (q : Option (List (Int × Bool) × Int)) (w : World) (e : Ending) (w' : World) : Prop :=
  match q with
  | none => e = .returned (.tuple #[.pointer none, .int .i64 2]) ∧ Below w.heap.size w w'
  | some (l, win) => ∃ v, e = .returned (.tuple #[.pointer (some ⟨w.heap.size, 0, none⟩), .int .i64 0]) ∧ PRel w w' l v win

end Go.Proofs.YtfldcmdhneegmaaGreatDoor
