/-
  package spotterref's WALKS of frames, 1: sum, number, moment, framed, Sound.
-/
import Derived.Test.YtfldcmdhneegmaaFrG
import Derived.Laws.IdiomStrings
import Derived.Laws.BitsAllLaws
import Derived.Laws.DeepStrings4
namespace Go.Proofs.Ytfldcmdhneegmaa
open Go.RowKit Go.Lib

/-- A byte of a text. -/
theorem str_index (t : List UInt8) (i : Int) (k : Nat) (hi : i = k) (hk : k < t.length) (w : World) : (Instr.index 9 (.string ⟨t.toArray⟩) (.int .i64 i)).run Try.prog w = .ok (.int .u8 t[k].toNat) w := by
  subst hi
  rw [run_index_string (P := Try.prog) w 9 ⟨t.toArray⟩ .i64 k Try.underlying9]
  rw [dif_pos ⟨by omega, by simp [ByteArray.size]; omega⟩]
  rfl
theorem str_extract (t : List UInt8) (a b : Nat) (h : b ≤ t.length) : (⟨t.toArray⟩ : ByteArray).extract a b = ⟨((t.take b).drop a).toArray⟩ := by
  apply ByteArray.ext
  rw [ByteArray.data_extract]
  apply Array.ext
  · simp; omega
  · intro i h1 h2
    simp
theorem str_from (t : List UInt8) (i : Int) (k : Nat) (hi : i = k) (hk : k ≤ t.length) (w : World) : (Instr.slice 9 (.string ⟨t.toArray⟩) (some (.int .i64 i)) none none).run Try.prog w = .ok (.string ⟨(t.drop k).toArray⟩) w := by
  subst hi
  have hs : (⟨t.toArray⟩ : ByteArray).size = t.length := by simp [ByteArray.size]
  rw [run_slice_string_from_if (P := Try.prog) w 9 ⟨t.toArray⟩ .i64 k Try.underlying9]
  rw [if_pos ⟨by omega, by rw [hs]; omega⟩, show (k : Int).toNat = k by omega, hs, str_extract t k _ (Nat.le_refl _), List.take_length]

/-- A text of one byte, out of a row of one. -/
theorem str_one (w : World) (u : Int) (b : Nat) (hb : u = b) (h : b < 256) : (convert 24 9 (.slice (some ⟨w.heap.size, 0, none⟩) 1 1)).run Try.prog (w.alloc (.cells #[.int .u8 u] 5)) = .ok (.string ⟨#[UInt8.ofNat b]⟩) (w.alloc (.cells #[.int .u8 u] 5)) := by
  subst hb
  have hn : (UInt8.ofNat b).toNat = b := Fr.toNat_ofNat h
  have := run_convert_bytes_back (P := Try.prog) (w.alloc (.cells #[.int .u8 (b : Int)] 5)) 24 9 5 ⟨w.heap.size, 0, none⟩ 1 [UInt8.ofNat b] Try.underlying24 Try.underlying5 Try.underlying9 (by
    intro j hj
    have h0' : j = 0 := by simp at hj; omega
    subst h0'
    simp only [List.getElem_cons_zero, hn]
    simp [Addr.add])
  simpa using this

set_option maxHeartbeats 1000000 in
set_option maxRecDepth 1000000 in
theorem rNumber_any (n : Nat) (w : World) (hn : n < 18446744073709551616) :
    Calls Try.prog 31 #[.int .u64 n] w fun e w' => e = .returned (.string ⟨(Fr.num n).toArray⟩) ∧ Below w.heap.size w w' := by
  go_enter Try.func31, Try.ntmps31
  go_wp2
  go_loopw [0, 3] (fun m s wr => ∃ (u : Nat) (acc : List UInt8), u < 18446744073709551616 ∧ m = .int .u64 u ∧ s = .string ⟨acc.toArray⟩ ∧ Hid (acc ++ Fr.num u = Fr.num n ∧ Below w.heap.size w wr)) (fun m _ _ => (intOf m).toNat)
  case atStart => exact ⟨n, [], hn, rfl, rfl, by simp, Below.refl _ _⟩
  case round =>
    obtain ⟨u, acc, hu, rfl, rfl, hr⟩ := hrel
    have ha : acc.length ≤ 10 := by
      have h1 := congrArg List.length hr.out.1
      have h2 := Fr.num_length64 hn
      rw [List.length_append] at h1
      omega
    by_cases h10 : 127 < u
    · have h10' : (127 : Int) < (u : Int) := by omega
      have hcv := str_one wr ((u : Int) % 128 + 128) (u % 128 + 128) (by omega) (by omega)
      go_wp2
      go_roundw
      case rel =>
        refine ⟨u / 128, acc ++ [UInt8.ofNat (u % 128 + 128)], by omega, by go_num, ?_, ?_, hr.out.2.alloc hr.out.2.size _⟩
        · rw [ByteArray.mk_append_mk]
          simp
        · rw [← hr.out.1, Fr.num_great (n := u) (by omega)]
          simp
      case measure => simp [intOf]; omega
    · have h10' : ¬ (127 : Int) < (u : Int) := by omega
      have hcv := str_one wr (u : Int) u rfl (by omega)
      go_wp2
      go_ret
      refine ⟨?_, hr.out.2.alloc hr.out.2.size _⟩
      rw [← hr.out.1, Fr.num_small (by omega)]
      simp [ByteArray.mk_append_mk]

/-- A text of four bytes, out of a row of four. -/
theorem str_four (w : World) (a b c d : Int) (l : List UInt8) (x0 x1 x2 x3 : UInt8) (hl : l = [x0, x1, x2, x3]) (h0 : a = x0.toNat) (h1 : b = x1.toNat) (h2 : c = x2.toNat) (h3 : d = x3.toNat) :
    (convert 24 9 (.slice (some ⟨w.heap.size, 0, none⟩) 4 4)).run Try.prog (w.alloc (.cells #[.int .u8 a, .int .u8 b, .int .u8 c, .int .u8 d] 5)) = .ok (.string ⟨l.toArray⟩) (w.alloc (.cells #[.int .u8 a, .int .u8 b, .int .u8 c, .int .u8 d] 5)) := by
  subst hl h0 h1 h2 h3
  have := run_convert_bytes_back (P := Try.prog) (w.alloc (.cells #[.int .u8 (x0.toNat : Int), .int .u8 (x1.toNat : Int), .int .u8 (x2.toNat : Int), .int .u8 (x3.toNat : Int)] 5)) 24 9 5 ⟨w.heap.size, 0, none⟩ 4 [x0, x1, x2, x3] Try.underlying24 Try.underlying5 Try.underlying9 (by
    intro j hj
    have hj' : j < 4 := by simpa using hj
    match j, hj' with
    | 0, _ => simp [Addr.add]
    | 1, _ => simp [Addr.add]
    | 2, _ => simp [Addr.add]
    | 3, _ => simp [Addr.add])
  simpa using this

set_option maxHeartbeats 1000000 in
set_option maxRecDepth 1000000 in
theorem rSum_any (l : List UInt8) (w : World) (hl : l.length ≤ 1000000) :
    Calls Try.prog 20 #[.string ⟨l.toArray⟩] w fun e w' => e = .returned (.string ⟨(Fr.sum l).toArray⟩) ∧ Below w.heap.size w w' := by
  have hs : (⟨l.toArray⟩ : ByteArray).size = l.length := by simp [ByteArray.size]
  go_enter Try.func20, Try.ntmps20
  go_wp2
  go_loop [3, 4] (fun h i => ∃ k : Nat, k ≤ l.length ∧ i = .int .i64 k ∧ h = .int .u32 (Fr.sumN (l.take k))) (fun _ i => l.length - (intOf i).toNat)
  case atStart => exact ⟨0, Nat.zero_le _, rfl, rfl⟩
  case round =>
    obtain ⟨k, hk, rfl, rfl⟩ := hrel
    have hlt32 := Fr.sumN_lt (l.take k)
    by_cases hlt : k < l.length
    · have hix := str_index l k k rfl hlt w
      have hb := l[k].toNat_lt
      have hx := u32_xor_nat (Fr.sumN (l.take k)) l[k].toNat hlt32 (by omega)
      go_wp2
      go_round
      case rel =>
        refine ⟨k + 1, by omega, by go_num, ?_⟩
        rw [List.take_add_one, List.getElem?_eq_getElem hlt, Option.toList_some, Fr.sumN_snoc]
        unfold Fr.sumStep
        simp
      case measure => simp [intOf]; omega
    · obtain rfl : k = l.length := by omega
      rw [List.take_length] at *
      generalize hS : Fr.sumN l = S at *
      have hcv := str_four w ((S : Int) / 16777216) ((S : Int) / 65536 % 256) ((S : Int) / 256 % 256) ((S : Int) % 256) (Fr.sum l) _ _ _ _ rfl (by rw [hS, u8_nat]; omega) (by rw [hS, u8_nat]; omega) (by rw [hS, u8_nat]; omega) (by rw [hS, u8_nat])
      go_wp2
      go_ret
      exact ⟨rfl, (Below.refl _ _).alloc (Nat.le_refl _) _⟩

theorem str_to (t : List UInt8) (i : Int) (k : Nat) (hi : i = k) (hk : k ≤ t.length) (w : World) : (Instr.slice 9 (.string ⟨t.toArray⟩) none (some (.int .i64 i)) none).run Try.prog w = .ok (.string ⟨(t.take k).toArray⟩) w := by
  subst hi
  have hs : (⟨t.toArray⟩ : ByteArray).size = t.length := by simp [ByteArray.size]
  rw [run_slice_string_to_if (P := Try.prog) w 9 ⟨t.toArray⟩ .i64 k Try.underlying9]
  rw [if_pos ⟨by omega, by rw [hs]; omega⟩, show (k : Int).toNat = k by omega, str_extract t 0 _ hk, List.drop_zero]
theorem str_part (t : List UInt8) (i j : Int) (a b : Nat) (hi : i = a) (hj : j = b) (hab : a ≤ b) (hb : b ≤ t.length) (w : World) : (Instr.slice 9 (.string ⟨t.toArray⟩) (some (.int .i64 i)) (some (.int .i64 j)) none).run Try.prog w = .ok (.string ⟨((t.take b).drop a).toArray⟩) w := by
  subst hi hj
  have hs : (⟨t.toArray⟩ : ByteArray).size = t.length := by simp [ByteArray.size]
  rw [run_slice_string_if (P := Try.prog) w 9 ⟨t.toArray⟩ .i64 .i64 a b Try.underlying9]
  rw [if_pos ⟨by omega, by rw [hs]; omega⟩, if_pos ⟨by omega, by omega⟩, show (a : Int).toNat = a by omega, show (b : Int).toNat = b by omega, str_extract t a b hb]

set_option maxHeartbeats 1000000 in
theorem rFramed_any (l : List UInt8) (w : World) (hl : l.length ≤ 1000000) :
    Calls Try.prog 32 #[.string ⟨l.toArray⟩] w fun e w' => e = .returned (.string ⟨(Fr.framed l).toArray⟩) ∧ Below w.heap.size w w' := by
  have HC := hid (rSum_any l w hl)
  have h4 := Fr.sum_length l
  have hs : (⟨l.toArray⟩ : ByteArray).size = l.length := by simp [ByteArray.size]
  have hs4 : (⟨(Fr.sum l).toArray⟩ : ByteArray).size = 4 := by simp [ByteArray.size, h4]
  go_enter Try.func32, Try.ntmps32
  go_wp2_with (go_at_call 20; refine HC.out.mono ?_; rintro e w' ⟨rfl, hb⟩; have HB := hid hb; clear hb)
  go_ret
  refine ⟨?_, HB.out⟩
  rw [ByteArray.mk_append_mk]
  simp [Fr.framed]

/-- What Sound of a text answers. -/
def SoundEnd (l : List UInt8) (kind : UInt8) (w : World) (e : Ending) (w' : World) : Prop :=
  ∃ t : List UInt8, e = .returned (.tuple #[.string ⟨t.toArray⟩, .bool (Fr.sound l kind).isSome]) ∧ (∀ r, Fr.sound l kind = some r → t = r) ∧ Below w.heap.size w w'

set_option maxHeartbeats 2000000 in
set_option maxRecDepth 1000000 in
theorem rSound_any (l : List UInt8) (kind : UInt8) (w : World) (hl : l.length ≤ 1000000) :
    Calls Try.prog 11 #[.string ⟨l.toArray⟩, .int .u8 kind.toNat] w (SoundEnd l kind w) := by
  have hs : (⟨l.toArray⟩ : ByteArray).size = l.length := by simp [ByteArray.size]
  by_cases h5 : l.length < 5
  · have hf : Fr.sound l kind = none := by unfold Fr.sound; rw [if_neg (by rintro ⟨h, -⟩; omega)]
    have h5' : (l.length : Int) < 5 := by omega
    have HF := hid hf
    clear hf
    go_enter Try.func11, Try.ntmps11
    go_wp2
    go_ret2
    exact ⟨[], by rw [HF.out]; rfl, fun r h => (by rw [HF.out] at h; cases h), Below.refl _ _⟩
  · have h5' : ¬ (l.length : Int) < 5 := by omega
    have hix := str_index l 0 0 rfl (by omega) w
    by_cases hk : l[0] = kind
    · have hk' : (((l[0]'(by omega)).toNat : Int) != (kind.toNat : Int)) = false := by rw [hk]; simp
      have HC := hid (rSum_any (l.take (l.length - 4)) w (by rw [List.length_take]; omega))
      have hto := fun w => str_to l ((l.length : Int) - 4) (l.length - 4) (by omega) (by omega) w
      have hfr := fun w => str_from l ((l.length : Int) - 4) (l.length - 4) (by omega) (by omega) w
      have hpt := fun w => str_part l 1 ((l.length : Int) - 4) 1 (l.length - 4) rfl (by omega) (by omega) (by omega) w
      have hS : Fr.sound l kind = if Fr.sum (l.take (l.length - 4)) = l.drop (l.length - 4) then some ((l.take (l.length - 4)).drop 1) else none := by
        have hh : l.head? = some kind := by
          cases l with
          | nil => simp at h5
          | cons b t => simpa using hk
        unfold Fr.sound
        by_cases c : Fr.sum (l.take (l.length - 4)) = l.drop (l.length - 4)
        · rw [if_pos c, if_pos ⟨by omega, hh, c⟩]
        · rw [if_neg c, if_neg (fun h => c h.2.2)]
      have HS := hid hS
      clear hS hk
      go_enter Try.func11, Try.ntmps11
      go_wp2_with (go_at_call 20; refine HC.out.mono ?_; rintro e w' ⟨rfl, hb⟩; have HB := hid hb; clear hb)
      go_quiet (fail)
      go_wp2
      go_ret2
      refine ⟨(l.take (l.length - 4)).drop 1, ?_, ?_, bel_drewN HB.out _⟩
      · rw [HS.out]
        by_cases c : Fr.sum (l.take (l.length - 4)) = l.drop (l.length - 4)
        · simp [c]
        · simp [c]
      · intro r h
        rw [HS.out] at h
        split at h
        · exact Option.some.inj h
        · cases h
    · have hk' : (((l[0]'(by omega)).toNat : Int) != (kind.toNat : Int)) = true := by
        simp
        intro e
        exact hk (UInt8.toNat_inj.1 (by omega))
      have hf : Fr.sound l kind = none := by
        unfold Fr.sound
        rw [if_neg]
        rintro ⟨-, h, -⟩
        apply hk
        cases l with
        | nil => simp at h5
        | cons b t => simpa using h
      have HF := hid hf
      clear hf hk
      go_enter Try.func11, Try.ntmps11
      go_wp2
      go_ret2
      exact ⟨[], by rw [HF.out]; rfl, fun r h => (by rw [HF.out] at h; cases h), Below.refl _ _⟩


end Go.Proofs.Ytfldcmdhneegmaa
