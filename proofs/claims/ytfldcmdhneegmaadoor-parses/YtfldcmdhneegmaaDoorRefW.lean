/-
  package spotterref's WALKS, 1: spaces, digits.
-/
import Derived.Test.YtfldcmdhneegmaaDoorRefQ
import Derived.Test.YtfldcmdhneegmaaDoorCanonX
import Derived.Laws.IdiomStrings
namespace Go.Proofs.YtfldcmdhneegmaaDoor
open Go.RowKit Go.Lib

theorem extract_from (t : List UInt8) (k : Nat) : (⟨t.toArray⟩ : ByteArray).extract k t.length = ⟨(t.drop k).toArray⟩ := by
  apply ByteArray.ext
  rw [ByteArray.data_extract]
  apply Array.ext
  · simp
  · intro i h1 h2
    simp
theorem slice_from (t : List UInt8) (i : Int) (k : Nat) (hi : i = k) (hk : k ≤ t.length) (w : World) : (Instr.slice 9 (.string ⟨t.toArray⟩) (some (.int .i64 i)) none none).run Tryd.prog w = .ok (.string ⟨(t.drop k).toArray⟩) w := by
  subst hi
  rw [run_slice_string_from_if (P := Tryd.prog) w 9 ⟨t.toArray⟩ .i64 k Tryd.underlying9]
  rw [if_pos ⟨by omega, by simp [ByteArray.size]; omega⟩, show (k : Int).toNat = k by omega, show (⟨t.toArray⟩ : ByteArray).size = t.length by simp [ByteArray.size], extract_from t k]
theorem sp_stop {l : List UInt8} {k : Nat} (h1 : Pl.sp (l.drop k) = Pl.sp l) (h2 : 0 < k → l.head? = some 32) (h3 : ∀ h : k < l.length, l[k] ≠ 32) : l.drop k = Pl.sp l ∧ decide (0 < k) = (l.head? == some 32) := by
  constructor
  · rw [← h1]
    by_cases h : k < l.length
    · rw [List.drop_eq_getElem_cons h, Pl.sp_cons _ (h3 h)]
    · rw [List.drop_eq_nil_of_le (by omega)]; rfl
  · by_cases h0 : 0 < k
    · rw [h2 h0]; simp [h0]
    · obtain rfl : k = 0 := by omega
      cases l with
      | nil => rfl
      | cons b r =>
        have := h3 (by simp)
        simpa using this

set_option maxHeartbeats 1000000 in
theorem spaces_any (l : List UInt8) (w : World) (hl : l.length ≤ 100) :
    Calls Tryd.prog 17 #[.string ⟨l.toArray⟩] w fun e w' => e = .returned (.tuple #[.string ⟨(Pl.sp l).toArray⟩, .bool (l.head? == some 32)]) ∧ w' = w := by
  go_enter Tryd.func17, Tryd.ntmps17
  go_wp2
  go_loop [4] (fun n => ∃ k : Nat, k ≤ l.length ∧ n = .int .i64 k ∧ Pl.sp (l.drop k) = Pl.sp l ∧ (0 < k → l.head? = some 32)) (fun n => l.length - (intOf n).toNat)
  case atStart => exact ⟨0, Nat.zero_le _, rfl, rfl, by omega⟩
  case round =>
    obtain ⟨k, hk, rfl, hs, hh⟩ := hrel
    have HS := hid (And.intro hs hh)
    clear hs hh
    by_cases hlt : k < l.length
    · have hix := index_one l k hlt w
      by_cases h32 : l[k] = 32
      · have hb : ((l[k].toNat : Int) == 32) = true := by rw [h32]; rfl
        have H32 := hid h32
        clear h32
        go_wp2
        go_round
        case rel =>
          have hd : l.drop k = 32 :: l.drop (k + 1) := by rw [List.drop_eq_getElem_cons hlt, H32.out]
          refine ⟨k + 1, by omega, by go_num, ?_, ?_⟩
          · rw [← HS.out.1, hd, Pl.sp_cons32]
          · intro _
            by_cases h0 : k = 0
            · subst h0
              rw [List.drop_zero] at hd
              rw [hd]; rfl
            · exact HS.out.2 (by omega)
        case measure => simp [intOf]; omega
      · have hb : ((l[k].toNat : Int) == 32) = false := by
          rw [beq_eq_false_iff_ne]
          intro e
          apply h32
          apply UInt8.toNat_inj.1
          have : (32 : UInt8).toNat = 32 := rfl
          omega
        have H32 := hid h32
        clear h32
        have hsl := slice_from l k k rfl (by omega) w
        have hst := sp_stop HS.out.1 HS.out.2 (fun _ => H32.out)
        rw [hst.1] at hsl
        have HD := hid hst.2
        clear hst
        go_wp2
        go_ret2
        exact ⟨by simp; exact HD.out, rfl⟩
    · have hsl := slice_from l k k rfl (by omega) w
      have hst := sp_stop HS.out.1 HS.out.2 (fun h => absurd h hlt)
      rw [hst.1] at hsl
      have HD := hid hst.2
      clear hst
      go_wp2
      go_ret2
      exact ⟨by simp; exact HD.out, rfl⟩

/-! ### digits -/
theorem bytes_one (w : World) (u : Int) (h0 : 0 ≤ u) (h9 : u < 10) : (convert 30 9 (.slice (some ⟨w.heap.size, 0, none⟩) 1 1)).run Tryd.prog (w.alloc (.cells #[.int .u8 (48 + u)] 5)) = .ok (.string ⟨#[UInt8.ofNat (48 + u.toNat)]⟩) (w.alloc (.cells #[.int .u8 (48 + u)] 5)) := by
  have hn : (UInt8.ofNat (48 + u.toNat)).toNat = 48 + u.toNat := by simp; omega
  have := run_convert_bytes_back (P := Tryd.prog) (w.alloc (.cells #[.int .u8 (48 + u)] 5)) 30 9 5 ⟨w.heap.size, 0, none⟩ 1 [UInt8.ofNat (48 + u.toNat)] Tryd.underlying30 Tryd.underlying5 Tryd.underlying9 (by
    intro j hj
    have h0' : j = 0 := by simp at hj; omega
    subst h0'
    simp only [List.getElem_cons_zero, hn]
    simp [Addr.add]
    omega)
  simpa using this

set_option maxHeartbeats 1000000 in
set_option maxRecDepth 1000000 in
theorem digits_any (n : Int) (w : World) (h0 : 0 ≤ n) (h9 : n ≤ 9999) :
    Calls Tryd.prog 21 #[.int .i64 n] w fun e w' => e = .returned (.string ⟨(decDigits n.toNat).toArray⟩) ∧ Below w.heap.size w w' := by
  go_enter Tryd.func21, Tryd.ntmps21
  go_wp2
  go_loopw [0, 3] (fun m s wr => ∃ (u : Nat) (acc : List UInt8), u ≤ 9999 ∧ m = .int .i64 u ∧ s = .string ⟨acc.toArray⟩ ∧ Hid (decDigits u ++ acc = decDigits n.toNat ∧ Below w.heap.size w wr)) (fun m _ _ => (intOf m).toNat)
  case atStart => exact ⟨n.toNat, [], by omega, by go_num, rfl, by simp, Below.refl _ _⟩
  case round =>
    obtain ⟨u, acc, hu, rfl, rfl, hr⟩ := hrel
    have ha : acc.length ≤ 4 := by
      have h1 := congrArg List.length hr.out.1
      have h2 := Pl.decDigits_length n.toNat (by omega)
      rw [List.length_append] at h1
      omega
    by_cases h10 : 9 < u
    · have h10' : (9 : Int) < (u : Int) := by omega
      have hcv := bytes_one wr ((u : Int) % 10) (by omega) (by omega)
      go_wp2
      go_roundw
      case rel =>
        refine ⟨u / 10, [UInt8.ofNat (48 + u % 10)] ++ acc, by omega, by go_num, ?_, ?_, hr.out.2.alloc hr.out.2.size _⟩
        · rw [ByteArray.mk_append_mk]
          simp
        · rw [← hr.out.1]
          rw [show decDigits u = decDigits (u / 10) ++ [UInt8.ofNat (48 + u % 10)] by rw [decDigits, dif_neg (by omega)]]
          simp
      case measure => simp [intOf]; omega
    · have h10' : ¬ (9 : Int) < (u : Int) := by omega
      have hcv := bytes_one wr (u : Int) (by omega) (by omega)
      go_wp2
      go_ret
      refine ⟨?_, hr.out.2.alloc hr.out.2.size _⟩
      rw [← hr.out.1, show decDigits u = [UInt8.ofNat (48 + u)] by rw [decDigits, dif_pos (by omega)]]
      simp [ByteArray.mk_append_mk]

end Go.Proofs.YtfldcmdhneegmaaDoor
