/-
  package chain's WALKS: alike, alikeAtEnd.
-/
import Derived.Test.YtfldcmdhneegmaaChA
import Derived.Test.YtfldcmdhneegmaaDlP
import Derived.Deep.QuietTactic
namespace Go.Proofs.Ytfldcmdhneegmaa
open Go.RowKit Go.Lib

theorem wrap_i64 {x : Int} (h1 : -9223372036854775808 ≤ x) (h2 : x ≤ 9223372036854775807) : IntKind.i64.wrap x = x := by
  simp only [IntKind.wrap, IntKind.bits, IntKind.signed]
  simp
  omega
theorem dre (w : World) (a b : Nat) : ∃ q, (w.drewN a).drewN b = w.drewN q := ⟨a + b, by rw [World.drewN_drewN]⟩
set_option maxHeartbeats 2000000 in
set_option maxRecDepth 1000000 in
theorem alike_any (F G : Nat → Prop) (v u : Value) (a b : List UInt8) (w : World) (hv : BytesAt F w v a) (hu : BytesAt G w u b) (ha : a.length ≤ 1000000) :
    Calls Try.prog 46 #[v, u] w fun e w' => e = .returned (.int .i64 (Fr.cp a b)) ∧ ∃ q, w' = w.drewN q := by
  obtain ⟨ao, ca, rfl, -, -⟩ := RowAt.slice hv
  obtain ⟨bo, cb, rfl, -, -⟩ := RowAt.slice hu
  have HV := hid hv
  have HU := hid hu
  clear hv hu
  go_enter Try.func46, Try.ntmps46
  go_wp2
  go_loopw [5] (fun i wr => ∃ k : Nat, k ≤ a.length ∧ k ≤ b.length ∧ i = .int .i64 k ∧ Hid (a.take k = b.take k ∧ ∃ q, wr = w.drewN q)) (fun i _ => a.length - (intOf i).toNat)
  case atStart => exact ⟨0, Nat.zero_le _, Nat.zero_le _, rfl, rfl, 0, rfl⟩
  case round =>
    obtain ⟨k, hka, hkb, rfl, hr⟩ := hrel
    obtain ⟨q, rfl⟩ := hr.out.2
    by_cases hla : k < a.length ∧ k < b.length
    · obtain ⟨h1, h2⟩ := hla
      have hm : decide ((k : Int) < if b.length < a.length then (b.length : Int) else (a.length : Int)) = true := decide_eq_true (by split <;> omega)
      obtain ⟨b1, o1, rfl, c1⟩ := HV.out.get h1
      obtain ⟨b2, o2, rfl, c2⟩ := HU.out.get h2
      have c1' : (w.drewN q).cell? ⟨b1, o1 + k, none⟩ = some (.int .u8 a[k].toNat) := c1
      have c2' : (w.drewN q).cell? ⟨b2, o2 + k, none⟩ = some (.int .u8 b[k].toNat) := c2
      by_cases he : a[k] = b[k]
      · have he' : ((a[k].toNat : Int) == (b[k].toNat : Int)) = true := by rw [he]; simp
        have HE := hid he
        clear he
        go_wp2
        go_quiet (fail)
        go_wp2
        all_goals
          go_roundw
          case rel =>
            refine ⟨k + 1, by omega, by omega, by go_num, ?_, by first | exact dre _ _ _ | exact ⟨_, rfl⟩⟩
            rw [List.take_add_one, List.take_add_one, hr.out.1, List.getElem?_eq_getElem h1, List.getElem?_eq_getElem h2, HE.out]
          case measure => simp [intOf]; omega
      · have he' : ((a[k].toNat : Int) == (b[k].toNat : Int)) = false := by
          simp
          intro e
          exact he (UInt8.toNat_inj.1 (by omega))
        have hcp := Fr.cp_stop a b k hr.out.1 hka hkb (fun _ _ => he)
        have HX := hid hcp
        clear hcp he
        go_wp2
        go_quiet (fail)
        go_wp2
        all_goals
          go_ret
          exact ⟨by rw [HX.out]; try rfl, by first | exact dre _ _ _ | exact ⟨_, rfl⟩⟩
    · have hm : decide ((k : Int) < if b.length < a.length then (b.length : Int) else (a.length : Int)) = false := decide_eq_false (by split <;> omega)
      have hcp := Fr.cp_stop a b k hr.out.1 hka hkb (fun h1 h2 => absurd ⟨h1, h2⟩ hla)
      have HX := hid hcp
      clear hcp
      go_wp2
      go_quiet (fail)
      go_wp2
      all_goals
        go_ret
        exact ⟨by rw [HX.out]; try rfl, by first | exact dre _ _ _ | exact ⟨_, rfl⟩⟩

set_option maxHeartbeats 2000000 in
set_option maxRecDepth 1000000 in
theorem alikeEnd_any (F G : Nat → Prop) (v u : Value) (a b : List UInt8) (w : World) (hv : BytesAt F w v a) (hu : BytesAt G w u b) (ha : a.length ≤ 1000000) (hb : b.length ≤ 1000000) :
    Calls Try.prog 47 #[v, u] w fun e w' => e = .returned (.int .i64 (Fr.cp a.reverse b.reverse)) ∧ ∃ q, w' = w.drewN q := by
  obtain ⟨ao, ca, rfl, -, -⟩ := RowAt.slice hv
  obtain ⟨bo, cb, rfl, -, -⟩ := RowAt.slice hu
  have HV := hid hv
  have HU := hid hu
  clear hv hu
  go_enter Try.func47, Try.ntmps47
  go_wp2
  go_loopw [5] (fun i wr => ∃ k : Nat, k ≤ a.length ∧ k ≤ b.length ∧ i = .int .i64 k ∧ Hid (a.reverse.take k = b.reverse.take k ∧ ∃ q, wr = w.drewN q)) (fun i _ => a.length - (intOf i).toNat)
  case atStart => exact ⟨0, Nat.zero_le _, Nat.zero_le _, rfl, rfl, 0, rfl⟩
  case round =>
    obtain ⟨k, hka, hkb, rfl, hr⟩ := hrel
    obtain ⟨q, rfl⟩ := hr.out.2
    by_cases hla : k < a.length ∧ k < b.length
    · obtain ⟨h1, h2⟩ := hla
      have hm : decide ((k : Int) < if b.length < a.length then (b.length : Int) else (a.length : Int)) = true := decide_eq_true (by split <;> omega)
      obtain ⟨b1, o1, rfl, c1⟩ := HV.out.get (i := a.length - 1 - k) (by omega)
      obtain ⟨b2, o2, rfl, c2⟩ := HU.out.get (i := b.length - 1 - k) (by omega)
      have ea : a.reverse[k]'(by simp; omega) = a[a.length - 1 - k]'(by omega) := List.getElem_reverse _
      have eb : b.reverse[k]'(by simp; omega) = b[b.length - 1 - k]'(by omega) := List.getElem_reverse _
      have i1 : ((a.length : Int) - 1 - (k : Int)).toNat = a.length - 1 - k := by omega
      have i2 : ((b.length : Int) - 1 - (k : Int)).toNat = b.length - 1 - k := by omega
      have j1 : (0 : Int) ≤ (a.length : Int) - 1 - (k : Int) := by omega
      have j2 : (0 : Int) ≤ (b.length : Int) - 1 - (k : Int) := by omega
      have j3 : (a.length : Int) - 1 - (k : Int) < (a.length : Int) := by omega
      have j4 : (b.length : Int) - 1 - (k : Int) < (b.length : Int) := by omega
      have c1' : (w.drewN q).cell? ⟨b1, o1 + (a.length - 1 - k), none⟩ = some (.int .u8 (a[a.length - 1 - k]'(by omega)).toNat) := c1
      have c2' : (w.drewN q).cell? ⟨b2, o2 + (b.length - 1 - k), none⟩ = some (.int .u8 (b[b.length - 1 - k]'(by omega)).toNat) := c2
      by_cases he : a[a.length - 1 - k]'(by omega) = b[b.length - 1 - k]'(by omega)
      · have he' : (((a[a.length - 1 - k]'(by omega)).toNat : Int) == ((b[b.length - 1 - k]'(by omega)).toNat : Int)) = true := by rw [he]; simp
        have HE := hid (ea.trans (he.trans eb.symm))
        clear he ea eb
        go_wp2
        go_quiet (fail)
        go_wp2
        all_goals
          go_roundw
          case rel =>
            refine ⟨k + 1, by omega, by omega, by go_num, ?_, by first | exact dre _ _ _ | exact ⟨_, rfl⟩⟩
            rw [List.take_add_one, List.take_add_one, hr.out.1, List.getElem?_eq_getElem (by simp; omega), List.getElem?_eq_getElem (by simp; omega), HE.out]
          case measure => simp [intOf]; omega
      · have he' : (((a[a.length - 1 - k]'(by omega)).toNat : Int) == ((b[b.length - 1 - k]'(by omega)).toNat : Int)) = false := by
          simp
          intro e
          exact he (UInt8.toNat_inj.1 (by omega))
        have hcp := Fr.cp_stop a.reverse b.reverse k hr.out.1 (by simp; omega) (by simp; omega) (fun _ _ h => he (ea.symm.trans (h.trans eb)))
        have HX := hid hcp
        clear hcp he ea eb
        go_wp2
        go_quiet (fail)
        go_wp2
        all_goals
          go_ret
          exact ⟨by rw [HX.out]; try rfl, by first | exact dre _ _ _ | exact ⟨_, rfl⟩⟩
    · have hm : decide ((k : Int) < if b.length < a.length then (b.length : Int) else (a.length : Int)) = false := decide_eq_false (by split <;> omega)
      have hcp := Fr.cp_stop a.reverse b.reverse k hr.out.1 (by simp; omega) (by simp; omega) (fun h1 h2 => absurd ⟨by simpa using h1, by simpa using h2⟩ hla)
      have HX := hid hcp
      clear hcp
      go_wp2
      go_quiet (fail)
      go_wp2
      all_goals
        go_ret
        exact ⟨by rw [HX.out]; try rfl, by first | exact dre _ _ _ | exact ⟨_, rfl⟩⟩

end Go.Proofs.Ytfldcmdhneegmaa
