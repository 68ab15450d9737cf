/-
  package spotterref's WALKS of deltas, 1: Delta.
-/
import Derived.Test.YtfldcmdhneegmaaFrB
import Derived.Test.YtfldcmdhneegmaaChB
import Derived.Deep.RegionWith
import Derived.Deep.DeepCutAuto
import Derived.Deep.CutBlock
namespace Go.Proofs.Ytfldcmdhneegmaa
open Go.RowKit Go.Lib

theorem rSoundS_any (l : List UInt8) (w : World) (hl : l.length ≤ 1000000) :
    Calls Try.prog 11 #[.string ⟨l.toArray⟩, .int .u8 83] w (SoundEnd l 83 w) := by
  have h := rSound_any l 83 w hl
  have e : (((83 : UInt8).toNat : Nat) : Int) = 83 := by decide
  rw [e] at h
  exact h
theorem rSoundD_any (l : List UInt8) (w : World) (hl : l.length ≤ 1000000) :
    Calls Try.prog 11 #[.string ⟨l.toArray⟩, .int .u8 68] w (SoundEnd l 68 w) := by
  have h := rSound_any l 68 w hl
  have e : (((68 : UInt8).toNat : Nat) : Int) = 68 := by decide
  rw [e] at h
  exact h

/-- What Delta answers. -/
def DeltaEnd (a b : List UInt8) (w : World) (e : Ending) (w' : World) : Prop :=
  e = .returned (.tuple #[.string ⟨(Fr.deltaOf a b).1.toArray⟩, .int .i64 (Fr.deltaOf a b).2]) ∧ Below w.heap.size w w'

set_option maxHeartbeats 2000000 in
set_option maxRecDepth 1000000 in
theorem rDelta_any (a b : List UInt8) (w : World) (ha : a.length ≤ 500000) (hb : b.length ≤ 500000) :
    Calls Try.prog 22 #[.string ⟨a.toArray⟩, .string ⟨b.toArray⟩] w (DeltaEnd a b w) := by
  have hsa : (⟨a.toArray⟩ : ByteArray).size = a.length := by simp [ByteArray.size]
  have hsb : (⟨b.toArray⟩ : ByteArray).size = b.length := by simp [ByteArray.size]
  have HA := hid (rSoundS_any a w (by omega))
  have HB := hid (fun W => rSoundS_any b W (by omega))
  by_cases hab : (Fr.sound a 83).isSome = true ∧ (Fr.sound b 83).isSome = true
  · obtain ⟨h1, h2⟩ := hab
    have hD : Fr.deltaOf a b = (Fr.delta a b, 0) := by unfold Fr.deltaOf; rw [if_pos ⟨h1, h2⟩]
    have HD := hid hD
    clear hD
    have h5a : 5 ≤ a.length := by
      unfold Fr.sound at h1
      split at h1
      · rename_i h; exact h.1
      · cases h1
    go_enter Try.func22, Try.ntmps22
    go_upto_block 0 with (first
      | (go_at_call_of 11 (Value.string ⟨a.toArray⟩); refine HA.out.mono ?_; rintro e w1 ⟨t1, rfl, -, hb1⟩; rw [h1]; have HB1 := hid hb1; clear hb1)
      | (go_at_call_of 11 (Value.string ⟨b.toArray⟩); refine (HB.out _).mono ?_; rintro e w2 ⟨t2, rfl, -, hb2⟩; rw [h2]; have HB2 := hid (HB1.out.trans (hb2.mono HB1.out.size)); clear hb2))
    go_cut [10] (fun s10 wx => s10 = .int .i64 (Fr.cp a b) ∧ Hid (∃ q, wx = w2.drewN q))
    case first =>
      go_wp2_with fail
      go_loopw [10] (fun i wr => ∃ k : Nat, k ≤ a.length ∧ k ≤ b.length ∧ i = .int .i64 k ∧ Hid (a.take k = b.take k ∧ ∃ q, wr = w2.drewN q)) (fun i _ => a.length - (intOf i).toNat)
      case atStart => exact ⟨0, Nat.zero_le _, Nat.zero_le _, rfl, rfl, 0, rfl⟩
      case round =>
        obtain ⟨k, hka, hkb, rfl, hr⟩ := hrel
        obtain ⟨q, rfl⟩ := hr.out.2
        by_cases hla : k < a.length
        · have hla' : (k : Int) < a.length := by omega
          have hia := fun w => str_index a k k rfl hla w
          by_cases hlb : k < b.length
          · have hlb' : (k : Int) < b.length := by omega
            have hib := fun w => str_index b k k rfl hlb w
            by_cases he : a[k] = b[k]
            · have he' : ((a[k].toNat : Int) == (b[k].toNat : Int)) = true := by rw [he]; simp
              have HE := hid he
              clear he
              go_wp2
              go_quiet (fail)
              go_wp2
              go_roundw
              case rel =>
                refine ⟨k + 1, by omega, by omega, by go_num, ?_, by first | exact dre _ _ _ | exact ⟨_, rfl⟩⟩
                rw [List.take_add_one, List.take_add_one, hr.out.1, List.getElem?_eq_getElem hla, List.getElem?_eq_getElem hlb, HE.out]
              case measure => simp [intOf]; omega
            · have he' : ((a[k].toNat : Int) == (b[k].toNat : Int)) = false := by
                simp
                intro e
                exact he (UInt8.toNat_inj.1 (by omega))
              have hcp := Fr.cp_stop a b k hr.out.1 hka hkb (fun _ _ => he)
              have HX := hid hcp
              clear hcp he
              go_wp2
              go_quiet (fail)
              go_wp2
              go_meet
              case rel => exact ⟨by rw [HX.out], by first | exact dre _ _ _ | exact ⟨_, rfl⟩⟩
          · have hlb' : decide ((k : Int) < b.length) = false := decide_eq_false (by omega)
            have hcp := Fr.cp_stop a b k hr.out.1 hka hkb (fun _ h => absurd h hlb)
            have HX := hid hcp
            clear hcp
            go_wp2
            go_quiet (fail)
            go_wp2
            go_meet
            case rel => exact ⟨by rw [HX.out], by first | exact dre _ _ _ | exact ⟨_, rfl⟩⟩
        · have hla' : decide ((k : Int) < a.length) = false := decide_eq_false (by omega)
          have hcp := Fr.cp_stop a b k hr.out.1 hka hkb (fun h _ => absurd h hla)
          have HX := hid hcp
          clear hcp
          go_wp2
          go_quiet (fail)
          go_wp2
          go_meet
          case rel => exact ⟨by rw [HX.out], by first | exact dre _ _ _ | exact ⟨_, rfl⟩⟩
    case rest =>
      obtain ⟨rfl, hq0⟩ := hcut
      obtain ⟨hpa, hpb⟩ := Fr.cp_le a b
      have hda : (a.drop (Fr.cp a b)).reverse.length = a.length - Fr.cp a b := by simp
      have hdb : (b.drop (Fr.cp a b)).reverse.length = b.length - Fr.cp a b := by simp
      have hga := Fr.drop_rev a (Fr.cp a b)
      have hgb := Fr.drop_rev b (Fr.cp a b)
      have hcq : Fr.cq a b (Fr.cp a b) = Fr.cp (a.drop (Fr.cp a b)).reverse (b.drop (Fr.cp a b)).reverse := rfl
      have HCQ := hid hcq
      have HG := hid (And.intro hga hgb)
      clear hcq hga hgb
      obtain ⟨qw, rfl⟩ := hq0.out
      generalize hW : w2.drewN qw = W at *
      go_upto_block 2 with fail
      go_cut [11] (fun s11 wx => s11 = .int .i64 (Fr.cq a b (Fr.cp a b)) ∧ Hid (∃ q, wx = W.drewN q))
      case first =>
        go_wp2_with fail
        go_loopw [11] (fun i wr => ∃ k : Nat, k ≤ a.length - Fr.cp a b ∧ k ≤ b.length - Fr.cp a b ∧ i = .int .i64 k ∧ Hid ((a.drop (Fr.cp a b)).reverse.take k = (b.drop (Fr.cp a b)).reverse.take k ∧ ∃ q, wr = W.drewN q)) (fun i _ => a.length - (intOf i).toNat)
        case atStart => exact ⟨0, Nat.zero_le _, Nat.zero_le _, rfl, rfl, 0, rfl⟩
        case round =>
          obtain ⟨k, hka, hkb, rfl, hr⟩ := hrel
          obtain ⟨q, rfl⟩ := hr.out.2
          by_cases hla : k < a.length - Fr.cp a b
          · have hla' : (k : Int) < (a.length : Int) - (Fr.cp a b : Int) := by omega
            have hia := fun w => str_index a ((a.length : Int) - 1 - k) (a.length - 1 - k) (by omega) (by omega) w
            by_cases hlb : k < b.length - Fr.cp a b
            · have hlb' : (k : Int) < (b.length : Int) - (Fr.cp a b : Int) := by omega
              have hib := fun w => str_index b ((b.length : Int) - 1 - k) (b.length - 1 - k) (by omega) (by omega) w
              have ea := HG.out.1 k hla
              have eb := HG.out.2 k hlb
              by_cases he : (a.drop (Fr.cp a b)).reverse[k]'(by rw [hda]; exact hla) = (b.drop (Fr.cp a b)).reverse[k]'(by rw [hdb]; exact hlb)
              · have he' : (((a[a.length - 1 - k]'(by omega)).toNat : Int) == ((b[b.length - 1 - k]'(by omega)).toNat : Int)) = true := by rw [← ea, ← eb, he]; simp
                have HE := hid he
                clear he ea eb
                go_wp2
                go_quiet (fail)
                go_wp2
                go_roundw
                case rel =>
                  refine ⟨k + 1, by omega, by omega, by go_num, ?_, by first | exact dre _ _ _ | exact ⟨_, rfl⟩⟩
                  rw [List.take_add_one, List.take_add_one, hr.out.1, List.getElem?_eq_getElem (by rw [hda]; exact hla), List.getElem?_eq_getElem (by rw [hdb]; exact hlb), HE.out]
                case measure => simp [intOf]; omega
              · have he' : (((a[a.length - 1 - k]'(by omega)).toNat : Int) == ((b[b.length - 1 - k]'(by omega)).toNat : Int)) = false := by
                  simp
                  intro e
                  apply he
                  rw [ea, eb]
                  exact UInt8.toNat_inj.1 (by omega)
                have hcp := Fr.cp_stop _ _ k hr.out.1 (by rw [hda]; exact hka) (by rw [hdb]; exact hkb) (fun _ _ => he)
                rw [← HCQ.out] at hcp
                have HX := hid hcp
                clear hcp he ea eb
                go_wp2
                go_quiet (fail)
                go_wp2
                go_meet
                case rel => exact ⟨by rw [HX.out], by first | exact dre _ _ _ | exact ⟨_, rfl⟩⟩
            · have hlb' : decide ((k : Int) < (b.length : Int) - (Fr.cp a b : Int)) = false := decide_eq_false (by omega)
              have hcp := Fr.cp_stop _ _ k hr.out.1 (by rw [hda]; exact hka) (by rw [hdb]; exact hkb) (fun _ h => absurd (by rw [hdb] at h; exact h) hlb)
              rw [← HCQ.out] at hcp
              have HX := hid hcp
              clear hcp
              go_wp2
              go_quiet (fail)
              go_wp2
              go_meet
              case rel => exact ⟨by rw [HX.out], by first | exact dre _ _ _ | exact ⟨_, rfl⟩⟩
          · have hla' : decide ((k : Int) < (a.length : Int) - (Fr.cp a b : Int)) = false := decide_eq_false (by omega)
            have hcp := Fr.cp_stop _ _ k hr.out.1 (by rw [hda]; exact hka) (by rw [hdb]; exact hkb) (fun h _ => absurd (by rw [hda] at h; exact h) hla)
            rw [← HCQ.out] at hcp
            have HX := hid hcp
            clear hcp
            go_wp2
            go_quiet (fail)
            go_wp2
            go_meet
            case rel => exact ⟨by rw [HX.out], by first | exact dre _ _ _ | exact ⟨_, rfl⟩⟩
      case rest =>
        obtain ⟨rfl, hq1⟩ := hcut
        obtain ⟨q2, rfl⟩ := hq1.out
        obtain ⟨hqa, hqb⟩ := Fr.cq_le a b (Fr.cp a b)
        have hBW : Below w.heap.size w (W.drewN q2) := by rw [← hW]; exact bel_drewN (bel_drewN HB2.out _) _
        have HBW := hid hBW
        have HN := hid (fun (n : Nat) (W : World) (h : n < 18446744073709551616) => rNumber_any n W h)
        have hnp := Fr.num_length64 (n := Fr.cp a b) (by omega)
        have hnq := Fr.num_length64 (n := Fr.cq a b (Fr.cp a b)) (by omega)
        have HF : Hid (∀ W, Calls Try.prog 32 #[.string (⟨#[68]⟩ ++ ⟨(a.drop (a.length - 4)).toArray⟩ ++ ⟨(Fr.num (Fr.cp a b)).toArray⟩ ++ ⟨(Fr.num (Fr.cq a b (Fr.cp a b))).toArray⟩ ++ ⟨((b.take (b.length - Fr.cq a b (Fr.cp a b))).drop (Fr.cp a b)).toArray⟩)] W fun e w' => e = .returned (.string ⟨(Fr.delta a b).toArray⟩) ∧ Below W.heap.size W w') := fun W => by
          have h := rFramed_any (68 :: (Fr.last4 a ++ Fr.num (Fr.cp a b) ++ Fr.num (Fr.cq a b (Fr.cp a b)) ++ (b.take (b.length - Fr.cq a b (Fr.cp a b))).drop (Fr.cp a b))) W (by simp [Fr.last4]; omega)
          have e : (⟨#[68]⟩ ++ ⟨(a.drop (a.length - 4)).toArray⟩ ++ ⟨(Fr.num (Fr.cp a b)).toArray⟩ ++ ⟨(Fr.num (Fr.cq a b (Fr.cp a b))).toArray⟩ ++ ⟨((b.take (b.length - Fr.cq a b (Fr.cp a b))).drop (Fr.cp a b)).toArray⟩ : ByteArray) = ⟨(68 :: (Fr.last4 a ++ Fr.num (Fr.cp a b) ++ Fr.num (Fr.cq a b (Fr.cp a b)) ++ (b.take (b.length - Fr.cq a b (Fr.cp a b))).drop (Fr.cp a b))).toArray⟩ := by
            simp only [ByteArray.mk_append_mk]
            simp [Fr.last4]
          rw [e]
          exact h
        have hm1 : ((b.take (b.length - Fr.cq a b (Fr.cp a b))).drop (Fr.cp a b)).length ≤ 500000 := by simp; omega
        have hm2 : (a.drop (a.length - 4)).length ≤ 500000 := by simp; omega
        have hfr := fun w => str_from a ((a.length : Int) - 4) (a.length - 4) (by omega) (by omega) w
        have hpt := fun w => str_part b (Fr.cp a b) ((b.length : Int) - (Fr.cq a b (Fr.cp a b) : Int)) (Fr.cp a b) (b.length - Fr.cq a b (Fr.cp a b)) rfl (by omega) (by omega) (by omega) w
        clear hBW hq0 hq1 HA HB HCQ HG
        go_wp2_with (first
          | (go_at_call_of 31 (Value.int .u64 (Fr.cp a b : Int)); refine (HN.out _ _ (by omega)).mono ?_; rintro e w3 ⟨rfl, hb3⟩; have HB3 := hid (HBW.out.trans (hb3.mono HBW.out.size)); clear hb3)
          | (go_at_call_of 31 (Value.int .u64 (Fr.cq a b (Fr.cp a b) : Int)); refine (HN.out _ _ (by omega)).mono ?_; rintro e w4 ⟨rfl, hb4⟩; have HB4 := hid (HB3.out.trans (hb4.mono HB3.out.size)); clear hb4))
        have hk1 : (4 : Int) ≤ (a.length : Int) := by omega
        have hk2 : (Fr.cp a b : Int) ≤ (b.length : Int) - (Fr.cq a b (Fr.cp a b) : Int) := by omega
        have hw1 : IntKind.i64.wrap ((a.length : Int) - 4) = (a.length : Int) - 4 := wrap_i64 (by omega) (by omega)
        have hw2 : IntKind.i64.wrap ((b.length : Int) - (Fr.cq a b (Fr.cp a b) : Int)) = (b.length : Int) - (Fr.cq a b (Fr.cp a b) : Int) := wrap_i64 (by omega) (by omega)
        go_region_with (first
          | (go_at_call 32; refine (HF.out _).mono ?_; rintro e w5 ⟨rfl, hb5⟩; have HB5 := hid ((Below.drew HB4.out).trans (hb5.mono HB4.out.size)); clear hb5))
        all_goals
          go_wp2
          go_ret2
          exact ⟨by rw [HD.out]; rfl, HB5.out⟩
  · have hD : Fr.deltaOf a b = ([], 5) := by unfold Fr.deltaOf; rw [if_neg hab]
    have HD := hid hD
    clear hD
    cases h1 : (Fr.sound a 83).isSome <;> cases h2 : (Fr.sound b 83).isSome
    case true.true => exact absurd ⟨h1, h2⟩ hab
    all_goals
      clear hab
      go_enter Try.func22, Try.ntmps22
      go_wp2_with (first
        | (go_at_call_of 11 (Value.string ⟨a.toArray⟩); refine HA.out.mono ?_; rintro e w1 ⟨t1, rfl, -, hb1⟩; rw [h1]; have HB1 := hid hb1; clear hb1)
        | (go_at_call_of 11 (Value.string ⟨b.toArray⟩); refine (HB.out _).mono ?_; rintro e w2 ⟨t2, rfl, -, hb2⟩; rw [h2]; have HB2 := hid (HB1.out.trans (hb2.mono HB1.out.size)); clear hb2))
      go_ret2
      exact ⟨by rw [HD.out]; rfl, HB2.out⟩

end Go.Proofs.Ytfldcmdhneegmaa
