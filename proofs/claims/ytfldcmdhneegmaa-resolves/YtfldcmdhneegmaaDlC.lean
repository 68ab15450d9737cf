/-
  package spotterref's WALKS of deltas, 3: Stands, Resolve.
-/
import Derived.Test.YtfldcmdhneegmaaDlB
import Derived.Test.YtfldcmdhneegmaaDlR
namespace Go.Proofs.Ytfldcmdhneegmaa
open Go.RowKit Go.Lib


/-- A row of texts. -/
def StrsAt (F : Nat → Prop) (w : World) (v : Value) (fs : List (List UInt8)) : Prop := RowAt F w v 1 fs.length (fs.map fun f => .string ⟨f.toArray⟩)
theorem StrsAt.below {F : Nat → Prop} {w w' : World} {v : Value} {fs : List (List UInt8)} (h : StrsAt F w v fs) (hb : Below w.heap.size w w') : StrsAt F w' v fs := RowAt.below h hb
theorem StrsAt.get {F : Nat → Prop} {w : World} {ao : Option Addr} {n cap : Nat} {fs : List (List UInt8)} (h : StrsAt F w (.slice ao n cap) fs) {i : Nat} (hi : i < fs.length) : ∃ b o, ao = some ⟨b, o, none⟩ ∧ w.cell? ⟨b, o + i, none⟩ = some (.string ⟨fs[i].toArray⟩) ∧ b < w.heap.size := by
  rcases h.2 with ⟨_, h0⟩ | ⟨b, o, cap', he, _, hb, _, _, r⟩
  · omega
  · cases he
    refine ⟨b, o, rfl, ?_, hb⟩
    apply r i
    simp [hi]

/-- What Stands answers. -/
def StandsEnd (o : Option (List UInt8)) (w : World) (e : Ending) (w' : World) : Prop :=
  e = .returned (.tuple #[.string ⟨(o.getD []).toArray⟩, .bool o.isSome]) ∧ Below w.heap.size w w'

set_option maxHeartbeats 4000000 in
set_option maxRecDepth 1000000 in
theorem rStands_any (F : Nat → Prop) (v : Value) (fs : List (List UInt8)) (hL : ∀ f ∈ fs, f.length ≤ 65536) (hfl : fs.length ≤ 1000) : ∀ (n i : Nat) (w : World), n ≤ 4 → i < fs.length → StrsAt F w v fs →
    Calls Try.prog 7 #[v, .int .i64 i, .int .i64 n] w (StandsEnd (Fr.stands fs n i) w) := by
  intro n
  induction n with
  | zero =>
    intro i w hn hi hv
    obtain ⟨ao, cap, rfl, -, -⟩ := RowAt.slice hv
    obtain ⟨b1, o1, rfl, c1, hb1⟩ := StrsAt.get hv hi
    have hget : fs.getD i [] = fs[i] := by simp [hi]
    have hfi := hL fs[i] (List.getElem_mem hi)
    have HS := hid (fun W => rSoundS_any fs[i] W (by omega))
    clear hv
    cases hso : (Fr.sound fs[i] 83).isSome
    · have hst : Fr.stands fs 0 i = none := by
        rw [Fr.stands, hget, if_neg (by rw [hso]; exact Bool.false_ne_true)]
      have HST := hid hst
      clear hst
      go_enter Try.func7, Try.ntmps7
      go_wp2_with (go_at_call 11; refine (HS.out _).mono ?_; rintro e w1 ⟨t1, rfl, -, hb⟩; rw [hso]; have HB := hid hb; clear hb)
      refine wp_loop_rounds 1 ?_
      rw [rounds_succ]
      by_cases h0 : (0 : Int) ≤ (i : Int) - 1
      · go_wp2
        all_goals
          go_ret2
          exact ⟨by rw [HST.out]; rfl, HB.out⟩
      · have h0' : decide ((0 : Int) ≤ (i : Int) - 1) = false := decide_eq_false h0
        go_wp2
        all_goals
          go_ret2
          exact ⟨by rw [HST.out]; rfl, HB.out⟩
    · have hst : Fr.stands fs 0 i = some fs[i] := by
        rw [Fr.stands, hget, if_pos hso]
      have HST := hid hst
      clear hst
      go_enter Try.func7, Try.ntmps7
      go_wp2_with (go_at_call 11; refine (HS.out _).mono ?_; rintro e w1 ⟨t1, rfl, -, hb⟩; rw [hso]; have c1' : w1.cell? ⟨b1, o1 + i, none⟩ = some (.string ⟨fs[i].toArray⟩) := (cell_bel hb ⟨b1, o1 + i, none⟩ hb1).trans c1; have HB := hid hb; clear hb)
      go_ret2
      refine ⟨?_, HB.out⟩
      rw [HST.out]
      rfl
  | succ n ih =>
    intro i w hn hi hv
    obtain ⟨ao, cap, rfl, -, -⟩ := RowAt.slice hv
    obtain ⟨b1, o1, rfl, c1, hb1⟩ := StrsAt.get hv hi
    have hget : fs.getD i [] = fs[i] := by simp [hi]
    have hfi := hL fs[i] (List.getElem_mem hi)
    have HV := hid hv
    have HS := hid (fun W => rSoundS_any fs[i] W (by omega))
    clear hv
    cases hso : (Fr.sound fs[i] 83).isSome
    · have hst : Fr.stands fs (n + 1) i = Fr.lastOf (Fr.stands fs n) (fun s => Fr.okOf (Fr.applyOf s fs[i])) i := by
        rw [Fr.stands, hget, if_neg (by rw [hso]; exact Bool.false_ne_true)]
      have HST := hid hst
      clear hst
      go_enter Try.func7, Try.ntmps7
      go_wp2_with (go_at_call 11; refine (HS.out _).mono ?_; rintro e w1 ⟨t1, rfl, -, hb⟩; rw [hso]; have HB := hid hb; clear hb)
      go_loopw [10] (fun j wr => ∃ jj : Nat, jj ≤ i ∧ j = .int .i64 ((jj : Int) - 1) ∧ Hid (Fr.lastOf (Fr.stands fs n) (fun s => Fr.okOf (Fr.applyOf s fs[i])) jj = Fr.stands fs (n + 1) i ∧ Below w.heap.size w wr)) (fun j _ => ((intOf j) + 1).toNat)
      case atStart => exact ⟨i, Nat.le_refl _, rfl, HST.out.symm, HB.out⟩
      case round =>
        obtain ⟨jj, hjj, rfl, hr⟩ := hrel
        cases jj with
        | zero =>
          go_wp2
          go_ret2
          refine ⟨?_, hr.out.2⟩
          rw [← hr.out.1]
          rfl
        | succ jj =>
          have ej : (((jj + 1 : Nat) : Int) - 1) = (jj : Int) := by omega
          rw [ej]
          have c1r : wr.cell? ⟨b1, o1 + i, none⟩ = some (.string ⟨fs[i].toArray⟩) := (cell_bel hr.out.2 ⟨b1, o1 + i, none⟩ hb1).trans c1
          have HIH := hid (ih jj wr (by omega) (by omega) (HV.out.below hr.out.2))
          have hn0 : (0 : Int) < (n : Int) + 1 := by omega
          have hj0 : (0 : Int) ≤ (jj : Int) := by omega
          cases hsj : Fr.stands fs n jj with
          | none =>
            have HSJ := hid hsj
            clear hsj
            go_wp2_with (go_at_call 7; refine HIH.out.mono ?_; rintro e w2 ⟨rfl, hb2⟩; rw [HSJ.out]; have HB2 := hid (hr.out.2.trans (hb2.mono hr.out.2.size)); clear hb2)
            go_roundw
            case rel =>
              refine ⟨jj, by omega, by go_num, ?_, HB2.out⟩
              rw [← hr.out.1, Fr.lastOf, HSJ.out]
            case measure => simp [intOf]
          | some s =>
            have hsl := Fr.stands_length hL n jj s hsj
            have hsl2 : s.length ≤ 400000 := by
              have : 65536 * (n + 1) ≤ 65536 * 4 := Nat.mul_le_mul_left _ (by omega)
              omega
            have HSJ := hid hsj
            have HAP := hid (fun W => rApply_any s fs[i] W hsl2 hfi)
            clear hsj hsl
            by_cases h0 : (Fr.applyOf s fs[i]).2 = 0
            · have h0' : ((Fr.applyOf s fs[i]).2 == 0) = true := by simpa using h0
              have H0 := hid h0
              clear h0
              go_wp2_with (first
                | (go_at_call 7; refine HIH.out.mono ?_; rintro e w2 ⟨rfl, hb2⟩; rw [HSJ.out]; have c1s : w2.cell? ⟨b1, o1 + i, none⟩ = some (.string ⟨fs[i].toArray⟩) := (cell_bel hb2 ⟨b1, o1 + i, none⟩ (Nat.lt_of_lt_of_le hb1 hr.out.2.size)).trans c1r; have HB2 := hid (hr.out.2.trans (hb2.mono hr.out.2.size)); clear hb2)
                | (go_at_call 12; refine (HAP.out _).mono ?_; rintro e w3 ⟨rfl, hb3⟩; have HB3 := hid (HB2.out.trans (hb3.mono HB2.out.size)); clear hb3))
              go_ret2
              refine ⟨?_, HB3.out⟩
              rw [← hr.out.1, Fr.lastOf, HSJ.out]
              simp only [Fr.okOf]
              rw [if_pos H0.out]
              rfl
            · have h0' : ((Fr.applyOf s fs[i]).2 == 0) = false := by simpa using h0
              have H0 := hid h0
              clear h0
              go_wp2_with (first
                | (go_at_call 7; refine HIH.out.mono ?_; rintro e w2 ⟨rfl, hb2⟩; rw [HSJ.out]; have c1s : w2.cell? ⟨b1, o1 + i, none⟩ = some (.string ⟨fs[i].toArray⟩) := (cell_bel hb2 ⟨b1, o1 + i, none⟩ (Nat.lt_of_lt_of_le hb1 hr.out.2.size)).trans c1r; have HB2 := hid (hr.out.2.trans (hb2.mono hr.out.2.size)); clear hb2)
                | (go_at_call 12; refine (HAP.out _).mono ?_; rintro e w3 ⟨rfl, hb3⟩; have HB3 := hid (HB2.out.trans (hb3.mono HB2.out.size)); clear hb3))
              go_roundw
              case rel =>
                refine ⟨jj, by omega, by go_num, ?_, HB3.out⟩
                rw [← hr.out.1, Fr.lastOf, HSJ.out]
                simp only [Fr.okOf]
                rw [if_neg H0.out]
              case measure => simp [intOf]
    · have hst : Fr.stands fs (n + 1) i = some fs[i] := by
        rw [Fr.stands, hget, if_pos hso]
      have HST := hid hst
      clear hst
      go_enter Try.func7, Try.ntmps7
      go_wp2_with (go_at_call 11; refine (HS.out _).mono ?_; rintro e w1 ⟨t1, rfl, -, hb⟩; rw [hso]; have c1' : w1.cell? ⟨b1, o1 + i, none⟩ = some (.string ⟨fs[i].toArray⟩) := (cell_bel hb ⟨b1, o1 + i, none⟩ hb1).trans c1; have HB := hid hb; clear hb)
      go_ret2
      refine ⟨?_, HB.out⟩
      rw [HST.out]
      rfl

set_option maxHeartbeats 2000000 in
set_option maxRecDepth 1000000 in
theorem rResolve_any (F : Nat → Prop) (v : Value) (fs : List (List UInt8)) (w : World) (hL : ∀ f ∈ fs, f.length ≤ 65536) (hfl : fs.length ≤ 1000) (hv : StrsAt F w v fs) :
    Calls Try.prog 5 #[v] w fun e w' => e = .returned (.tuple #[.string ⟨(Fr.resolve fs).1.toArray⟩, .int .i64 (Fr.resolve fs).2]) ∧ Below w.heap.size w w' := by
  obtain ⟨ao, cap, rfl, -, -⟩ := RowAt.slice hv
  have HV := hid hv
  clear hv
  go_enter Try.func5, Try.ntmps5
  go_wp2
  go_loopw [4] (fun j wr => ∃ jj : Nat, jj ≤ fs.length ∧ j = .int .i64 ((jj : Int) - 1) ∧ Hid (Fr.resolveTo fs jj = Fr.resolve fs ∧ Below w.heap.size w wr)) (fun j _ => ((intOf j) + 1).toNat)
  case atStart => exact ⟨fs.length, Nat.le_refl _, rfl, rfl, Below.refl _ _⟩
  case round =>
    obtain ⟨jj, hjj, rfl, hr⟩ := hrel
    cases jj with
    | zero =>
      go_wp2
      go_ret2
      refine ⟨?_, hr.out.2⟩
      rw [← hr.out.1]
      rfl
    | succ jj =>
      have ej : (((jj + 1 : Nat) : Int) - 1) = (jj : Int) := by omega
      rw [ej]
      have HS := hid (rStands_any F (.slice ao fs.length cap) fs hL hfl 4 jj wr (by omega) (by omega) (HV.out.below hr.out.2))
      have hj0 : (0 : Int) ≤ (jj : Int) := by omega
      cases hsj : Fr.stands fs 4 jj with
      | none =>
        have HSJ := hid hsj
        clear hsj
        go_wp2_with (go_at_call 7; refine HS.out.mono ?_; rintro e w2 ⟨rfl, hb2⟩; rw [HSJ.out]; have HB2 := hid (hr.out.2.trans (hb2.mono hr.out.2.size)); clear hb2)
        go_roundw
        case rel =>
          refine ⟨jj, by omega, by go_num, ?_, HB2.out⟩
          rw [← hr.out.1, Fr.resolveTo, HSJ.out]
        case measure => simp [intOf]
      | some s =>
        have HSJ := hid hsj
        clear hsj
        go_wp2_with (go_at_call 7; refine HS.out.mono ?_; rintro e w2 ⟨rfl, hb2⟩; rw [HSJ.out]; have HB2 := hid (hr.out.2.trans (hb2.mono hr.out.2.size)); clear hb2)
        go_ret2
        refine ⟨?_, HB2.out⟩
        rw [← hr.out.1, Fr.resolveTo, HSJ.out]
        rfl

end Go.Proofs.Ytfldcmdhneegmaa
