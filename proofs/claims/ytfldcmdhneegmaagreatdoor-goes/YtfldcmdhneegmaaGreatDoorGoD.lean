import Derived.Test.YtfldcmdhneegmaaGreatDoorZ33

/-
  package spotterkeep's digits.
-/
namespace Go.Proofs.YtfldcmdhneegmaaGreatDoor
open Go.RowKit Go.Lib

set_option maxHeartbeats 1000000 in
set_option maxRecDepth 1000000 in
theorem kDigits_any (n : Int) (w : World) (h0 : 0 ≤ n) (h9 : n ≤ 9999) :
    Calls Tryz.prog 24 #[.int .i64 n] w fun e w' => e = .returned (.string ⟨(decDigits n.toNat).toArray⟩) ∧ Below w.heap.size w w' := by
  go_enter Tryz.func24, Tryz.ntmps24
  go_wp2
  go_loopw [0, 3] (fun m s wr => ∃ (u : Nat) (acc : List UInt8), u ≤ 9999 ∧ m = .int .i64 u ∧ s = .string ⟨acc.toArray⟩ ∧ Hid (decDigits u ++ acc = decDigits n.toNat ∧ Below w.heap.size w wr)) (fun m _ _ => (intOf m).toNat)
  case atStart => exact ⟨n.toNat, [], by omega, by go_num, rfl, by simp, Below.refl _ _⟩
  case round =>
    obtain ⟨u, acc, hu, rfl, rfl, hr⟩ := hrel
    have ha : acc.length ≤ 4 := by
      have h1 := congrArg List.length hr.out.1
      have h2 := Pl.decDigits_length n.toNat (by omega)
      rw [List.length_append] at h1
      omega
    by_cases h10 : 9 < u
    · have h10' : (9 : Int) < (u : Int) := by omega
      have hcv := bytes_one wr ((u : Int) % 10) (by omega) (by omega)
      go_wp2
      go_roundw
      case rel =>
        refine ⟨u / 10, [UInt8.ofNat (48 + u % 10)] ++ acc, by omega, by go_num, ?_, ?_, hr.out.2.alloc hr.out.2.size _⟩
        · rw [ByteArray.mk_append_mk]
          simp
        · rw [← hr.out.1]
          rw [show decDigits u = decDigits (u / 10) ++ [UInt8.ofNat (48 + u % 10)] by rw [decDigits, dif_neg (by omega)]]
          simp
      case measure => simp [intOf]; omega
    · have h10' : ¬ (9 : Int) < (u : Int) := by omega
      have hcv := bytes_one wr (u : Int) (by omega) (by omega)
      go_wp2
      go_ret
      refine ⟨?_, hr.out.2.alloc hr.out.2.size _⟩
      rw [← hr.out.1, show decDigits u = [UInt8.ofNat (48 + u)] by rw [decDigits, dif_pos (by omega)]]
      simp [ByteArray.mk_append_mk]

end Go.Proofs.YtfldcmdhneegmaaGreatDoor
