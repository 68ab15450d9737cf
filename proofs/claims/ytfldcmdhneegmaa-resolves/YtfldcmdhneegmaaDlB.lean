/-
  package spotterref's WALKS of deltas, 2: Apply.
-/
import Derived.Test.YtfldcmdhneegmaaDlA
namespace Go.Proofs.Ytfldcmdhneegmaa
open Go.RowKit Go.Lib

theorem But.below {b B : Nat} {w w' : World} (h : But b w w') (hb : B ≤ b) (hB : B ≤ w.heap.size) : Below B w w' :=
  ⟨h.os, h.tape, h.output, h.size, fun k hk => h.block k (by omega) (by rintro e; cases e; omega)⟩
theorem str_toU (t : List UInt8) (i : Int) (k : Nat) (hi : i = k) (hk : k ≤ t.length) (w : World) : (Instr.slice 9 (.string ⟨t.toArray⟩) none (some (.int .u64 i)) none).run Try.prog w = .ok (.string ⟨(t.take k).toArray⟩) w := by
  subst hi
  have hs : (⟨t.toArray⟩ : ByteArray).size = t.length := by simp [ByteArray.size]
  rw [run_slice_string_to_if (P := Try.prog) w 9 ⟨t.toArray⟩ .u64 k Try.underlying9]
  rw [if_pos ⟨by omega, by rw [hs]; omega⟩, show (k : Int).toNat = k by omega, str_extract t 0 _ hk, List.drop_zero]
theorem str_fromU (t : List UInt8) (i : Int) (k : Nat) (hi : i = k) (hk : k ≤ t.length) (w : World) : (Instr.slice 9 (.string ⟨t.toArray⟩) (some (.int .u64 i)) none none).run Try.prog w = .ok (.string ⟨(t.drop k).toArray⟩) w := by
  subst hi
  have hs : (⟨t.toArray⟩ : ByteArray).size = t.length := by simp [ByteArray.size]
  rw [run_slice_string_from_if (P := Try.prog) w 9 ⟨t.toArray⟩ .u64 k Try.underlying9]
  rw [if_pos ⟨by omega, by rw [hs]; omega⟩, show (k : Int).toNat = k by omega, hs, str_extract t k _ (Nat.le_refl _), List.take_length]

/-- What Apply answers. -/
def ApplyEnd (a d : List UInt8) (w : World) (e : Ending) (w' : World) : Prop :=
  e = .returned (.tuple #[.string ⟨(Fr.applyOf a d).1.toArray⟩, .int .i64 (Fr.applyOf a d).2]) ∧ Below w.heap.size w w'
theorem applyEnd_of {a d : List UInt8} {w w' : World} {x : List UInt8 × Int} (h : Fr.applyOf a d = x) (hb : Below w.heap.size w w') : ApplyEnd a d w (.returned (.tuple #[.string ⟨x.1.toArray⟩, .int .i64 x.2])) w' := by
  subst h
  exact ⟨rfl, hb⟩
theorem apply_none {a d : List UInt8} (h : Fr.parts d = none) : Fr.applyOf a d = ([], 5) := by
  unfold Fr.applyOf
  rw [h]
  simp
theorem apply_bad {a d : List UInt8} (h : (Fr.sound a 83).isSome = false) : Fr.applyOf a d = ([], 5) := by
  unfold Fr.applyOf
  rw [if_neg (by rw [h]; exact Bool.false_ne_true)]
/-- A number is read: the Reader's block is the call's own. -/
theorem rrNumber_some {l : List UInt8} {n : Nat} {z : Bool} {r : List UInt8} (hx : Fr.rdRaw l = some (n, z, r)) (bad : Bool) (b : Nat) (W : World) (hb : RdrAt W b l bad) (hl : l.length ≤ 1000000) :
    Calls Try.prog 21 #[.pointer (some ⟨b, 0, none⟩), .int .u64 18446744073709551615] W fun e w' => e = .returned (.int .u64 n) ∧ RdrAt w' b r (bad || z) ∧ But b W w' := by
  have hn := (Fr.rdRaw_lt hx).1
  have ht : decide (18446744073709551615 < n) = false := by simp; omega
  refine (rrNumber_any l bad 18446744073709551615 b W hb hl).mono ?_
  rintro e w' ⟨h1, h2⟩
  rw [hx] at h2
  simp only [ht, Bool.or_false] at h2
  exact ⟨h2.1, h2.2, h1⟩
theorem rrNumber_none {l : List UInt8} (hx : Fr.rdRaw l = none) (bad : Bool) (b : Nat) (W : World) (hb : RdrAt W b l bad) (hl : l.length ≤ 1000000) :
    Calls Try.prog 21 #[.pointer (some ⟨b, 0, none⟩), .int .u64 18446744073709551615] W fun e w' => e = .returned (.int .u64 0) ∧ RdrAt w' b [] true ∧ But b W w' := by
  refine (rrNumber_any l bad 18446744073709551615 b W hb hl).mono ?_
  rintro e w' ⟨h1, h2⟩
  rw [hx] at h2
  exact ⟨h2.1, h2.2, h1⟩
/-- Two numbers are read; is something wrong then? -/
theorem two_numbers (l : List UInt8) : ∃ (p q : Nat) (m : List UInt8) (bad : Bool), p < 18446744073709551616 ∧ q < 18446744073709551616 ∧ m.length ≤ l.length ∧
    (∀ (b : Nat) (W : World), RdrAt W b l false → l.length ≤ 1000000 → ∃ (l1 : List UInt8) (bad1 : Bool), l1.length ≤ l.length ∧
      (Calls Try.prog 21 #[.pointer (some ⟨b, 0, none⟩), .int .u64 18446744073709551615] W fun e w' => e = .returned (.int .u64 p) ∧ RdrAt w' b l1 bad1 ∧ But b W w') ∧
      ∀ W', RdrAt W' b l1 bad1 → Calls Try.prog 21 #[.pointer (some ⟨b, 0, none⟩), .int .u64 18446744073709551615] W' fun e w' => e = .returned (.int .u64 q) ∧ RdrAt w' b m bad ∧ But b W' w') ∧
    (match Fr.rd l with | none => none | some (p', r) => match Fr.rd r with | none => none | some (q', r') => some (p', q', r')) = if bad then none else some (p, q, m) := by
  cases h1 : Fr.rdRaw l with
  | none =>
    refine ⟨0, 0, [], true, by omega, by omega, by simp, fun b W hb hl => ⟨[], true, by simp, rrNumber_none h1 false b W hb hl, fun W' hb' => ?_⟩, ?_⟩
    · exact rrNumber_none (l := []) rfl true b W' hb' (by simp)
    · have : Fr.rd l = none := by unfold Fr.rd; rw [h1]
      rw [this]; rfl
  | some x =>
    obtain ⟨p, z1, r1⟩ := x
    obtain ⟨hp, hr1⟩ := Fr.rdRaw_lt h1
    cases h2 : Fr.rdRaw r1 with
    | none =>
      refine ⟨p, 0, [], true, hp, by omega, by simp, fun b W hb hl => ⟨r1, false || z1, by omega, rrNumber_some h1 false b W hb hl, fun W' hb' => rrNumber_none h2 _ b W' hb' (by omega)⟩, ?_⟩
      have e2 : Fr.rd r1 = none := by unfold Fr.rd; rw [h2]
      cases z1
      · have e1 : Fr.rd l = some (p, r1) := by unfold Fr.rd; rw [h1]
        rw [e1]; simp only []; rw [e2]; rfl
      · have e1 : Fr.rd l = none := by unfold Fr.rd; rw [h1]
        rw [e1]; rfl
    | some y =>
      obtain ⟨q, z2, r2⟩ := y
      obtain ⟨hq, hr2⟩ := Fr.rdRaw_lt h2
      refine ⟨p, q, r2, (false || z1) || z2, hp, hq, by omega, fun b W hb hl => ⟨r1, false || z1, by omega, rrNumber_some h1 false b W hb hl, fun W' hb' => rrNumber_some h2 _ b W' hb' (by omega)⟩, ?_⟩
      cases z1
      · have e1 : Fr.rd l = some (p, r1) := by unfold Fr.rd; rw [h1]
        rw [e1]; simp only []
        cases z2
        · have e2 : Fr.rd r1 = some (q, r2) := by unfold Fr.rd; rw [h2]
          rw [e2]; rfl
        · have e2 : Fr.rd r1 = none := by unfold Fr.rd; rw [h2]
          rw [e2]; rfl
      · have e1 : Fr.rd l = none := by unfold Fr.rd; rw [h1]
        rw [e1]; rfl

set_option maxHeartbeats 4000000 in
set_option maxRecDepth 1000000 in
theorem rApply_any (a d : List UInt8) (w : World) (ha : a.length ≤ 400000) (hd : d.length ≤ 65536) :
    Calls Try.prog 12 #[.string ⟨a.toArray⟩, .string ⟨d.toArray⟩] w (ApplyEnd a d w) := by
  have hsa : (⟨a.toArray⟩ : ByteArray).size = a.length := by simp [ByteArray.size]
  have hsd : (⟨d.toArray⟩ : ByteArray).size = d.length := by simp [ByteArray.size]
  have HA := hid (rSoundS_any a w (by omega))
  have HD := hid (fun W => rSoundD_any d W (by omega))
  cases h1 : (Fr.sound a 83).isSome
  · have HX := hid (apply_bad (d := d) h1)
    cases h2 : (Fr.sound d 68).isSome
    all_goals
      go_enter Try.func12, Try.ntmps12
      go_wp2_with (first
        | (go_at_call_of 11 (Value.string ⟨a.toArray⟩); refine HA.out.mono ?_; rintro e w1 ⟨t1, rfl, -, hb1⟩; rw [h1]; have HB1 := hid hb1; clear hb1)
        | (go_at_call_of 11 (Value.string ⟨d.toArray⟩); refine (HD.out _).mono ?_; rintro e w2 ⟨t2, rfl, ht2, hb2⟩; rw [h2]; have HB2 := hid (HB1.out.trans (hb2.mono HB1.out.size)); have HT2 := hid ht2; clear hb2 ht2))
      go_ret2
      exact applyEnd_of HX.out HB2.out
  cases hi : Fr.sound d 68 with
  | none =>
    have h2 : (Fr.sound d 68).isSome = false := by rw [hi]; rfl
    have HX := hid (apply_none (a := a) (d := d) (by unfold Fr.parts; rw [hi]))
    clear hi
    go_enter Try.func12, Try.ntmps12
    go_wp2_with (first
      | (go_at_call_of 11 (Value.string ⟨a.toArray⟩); refine HA.out.mono ?_; rintro e w1 ⟨t1, rfl, -, hb1⟩; rw [h1]; have HB1 := hid hb1; clear hb1)
      | (go_at_call_of 11 (Value.string ⟨d.toArray⟩); refine (HD.out _).mono ?_; rintro e w2 ⟨t2, rfl, ht2, hb2⟩; rw [h2]; have HB2 := hid (HB1.out.trans (hb2.mono HB1.out.size)); have HT2 := hid ht2; clear hb2 ht2))
    go_ret2
    exact applyEnd_of HX.out HB2.out
  | some i =>
    have h2 : (Fr.sound d 68).isSome = true := by rw [hi]; rfl
    have hil : i.length ≤ 65536 := by
      have := Fr.sound_iff.1 hi
      have h := congrArg List.length this
      simp [Fr.framed, Fr.sum_length] at h
      omega
    have hsi : (⟨i.toArray⟩ : ByteArray).size = i.length := by simp [ByteArray.size]
    have HI := hid hi
    by_cases h4 : i.length < 4
    · have HX := hid (apply_none (a := a) (d := d) (by unfold Fr.parts; rw [hi]; simp only []; rw [if_pos h4]))
      have h4' : (i.length : Int) < 4 := by omega
      clear hi
      go_enter Try.func12, Try.ntmps12
      go_wp2_with (first
        | (go_at_call_of 11 (Value.string ⟨a.toArray⟩); refine HA.out.mono ?_; rintro e w1 ⟨t1, rfl, -, hb1⟩; rw [h1]; have HB1 := hid hb1; clear hb1)
        | (go_at_call_of 11 (Value.string ⟨d.toArray⟩); refine (HD.out _).mono ?_; rintro e w2 ⟨t2, rfl, ht2, hb2⟩; obtain rfl := ht2 i HI.out; rw [h2]; have HB2 := hid (HB1.out.trans (hb2.mono HB1.out.size)); clear hb2 ht2))
      go_ret2
      exact applyEnd_of HX.out HB2.out
    · have h4' : decide ((i.length : Int) < 4) = false := decide_eq_false (by omega)
      have h5a : 5 ≤ a.length := by
        unfold Fr.sound at h1
        split at h1
        · rename_i h; exact h.1
        · cases h1
      obtain ⟨p, q, m, bad, hp, hq, hm, hread, hparts⟩ := two_numbers (i.drop 4)
      have hP : Fr.parts d = if bad then none else some (i.take 4, p, q, m) := by
        unfold Fr.parts
        rw [hi]
        simp only []
        rw [if_neg h4]
        revert hparts
        cases bad
        · intro hparts
          cases e1 : Fr.rd (i.drop 4) with
          | none => rw [e1] at hparts; simp at hparts
          | some x =>
            obtain ⟨p', r'⟩ := x
            rw [e1] at hparts
            simp only [] at hparts ⊢
            cases e2 : Fr.rd r' with
            | none => rw [e2] at hparts; simp at hparts
            | some y =>
              obtain ⟨q', r2⟩ := y
              rw [e2] at hparts
              simp at hparts ⊢
              exact hparts
        · intro hparts
          cases e1 : Fr.rd (i.drop 4) with
          | none => rfl
          | some x =>
            obtain ⟨p', r'⟩ := x
            rw [e1] at hparts
            simp only [] at hparts ⊢
            cases e2 : Fr.rd r' with
            | none => rfl
            | some y =>
              obtain ⟨q', r2⟩ := y
              rw [e2] at hparts
              simp at hparts
      have hml : (i.drop 4).length ≤ 65536 := by simp; omega
      have HRD := hid hread
      have hfr := fun w => str_from i 4 4 rfl (by omega) w
      clear hi hread hparts
      cases bad
      case true =>
        have HX := hid (apply_none (a := a) (d := d) (by rw [hP]; rfl))
        clear hP
        go_enter Try.func12, Try.ntmps12
        go_wp2_with (first
          | (go_at_call_of 11 (Value.string ⟨a.toArray⟩); refine HA.out.mono ?_; rintro e w1 ⟨t1, rfl, -, hb1⟩; rw [h1]; have HB1 := hid hb1; clear hb1)
          | (go_at_call_of 11 (Value.string ⟨d.toArray⟩); refine (HD.out _).mono ?_; rintro e w2 ⟨t2, rfl, ht2, hb2⟩; obtain rfl := ht2 i HI.out; rw [h2]; have HB2 := hid (HB1.out.trans (hb2.mono HB1.out.size)); clear hb2 ht2)
          | (go_at_call 21; refine (HN2.out _ HR3.out.1).mono ?_; rintro e w4 ⟨rfl, hr4, hb4⟩; have d0 := hr4.c0; have d1 := hr4.c1; have HB4 := hid (HR3.out.2.trans (hb4.below HB2.out.size HR3.out.2.size)); clear hr4 hb4)
          | (go_at_call 21; obtain ⟨l1, bad1, hl1, hc1, hc2⟩ := HRD.out w2.heap.size _ (new_at (w := w2) rfl) (by omega); refine hc1.mono ?_; rintro e w3 ⟨rfl, hr3, hb3⟩; have HN2 := hid hc2; have HR3 := hid (And.intro hr3 ((HB2.out.alloc HB2.out.size _).trans (hb3.below HB2.out.size (by have := HB2.out.size; simp; omega)))); clear hc1 hc2 hr3 hb3))
        go_ret2
        exact applyEnd_of HX.out HB4.out
      case false =>
        have hA : Fr.applyOf a d = if i.take 4 ≠ Fr.last4 a then ([], 6) else if a.length < p ∨ a.length - p < q then ([], 5) else if (Fr.sound (a.take p ++ m ++ a.drop (a.length - q)) 83).isSome ∧ Fr.delta a (a.take p ++ m ++ a.drop (a.length - q)) = d then (a.take p ++ m ++ a.drop (a.length - q), 0) else ([], 5) := by
          unfold Fr.applyOf
          rw [if_pos h1, hP]
          rfl
        have hto := fun w => str_to i 4 4 rfl (by omega) w
        have hfa := fun w => str_from a ((a.length : Int) - 4) (a.length - 4) (by omega) (by omega) w
        clear hP
        by_cases hs4 : i.take 4 = Fr.last4 a
        · rw [if_neg (fun h => h hs4)] at hA
          have hne : (i.take 4 == a.drop (a.length - 4)) = true := by simpa [Fr.last4] using hs4
          clear hs4
          by_cases c1 : a.length < p
          · rw [if_pos (Or.inl c1)] at hA
            have HX := hid hA
            have c1' : (a.length : Int) < (p : Int) := by omega
            clear hA
            go_enter Try.func12, Try.ntmps12
            go_wp2_with (first
              | (go_at_call_of 11 (Value.string ⟨a.toArray⟩); refine HA.out.mono ?_; rintro e w1 ⟨t1, rfl, -, hb1⟩; rw [h1]; have HB1 := hid hb1; clear hb1)
              | (go_at_call_of 11 (Value.string ⟨d.toArray⟩); refine (HD.out _).mono ?_; rintro e w2 ⟨t2, rfl, ht2, hb2⟩; obtain rfl := ht2 i HI.out; rw [h2]; have HB2 := hid (HB1.out.trans (hb2.mono HB1.out.size)); clear hb2 ht2)
              | (go_at_call 21; refine (HN2.out _ HR3.out.1).mono ?_; rintro e w4 ⟨rfl, hr4, hb4⟩; have d0 := hr4.c0; have d1 := hr4.c1; have HB4 := hid (HR3.out.2.trans (hb4.below HB2.out.size HR3.out.2.size)); clear hr4 hb4)
              | (go_at_call 21; obtain ⟨l1, bad1, hl1, hc1, hc2⟩ := HRD.out w2.heap.size _ (new_at (w := w2) rfl) (by omega); refine hc1.mono ?_; rintro e w3 ⟨rfl, hr3, hb3⟩; have HN2 := hid hc2; have HR3 := hid (And.intro hr3 ((HB2.out.alloc HB2.out.size _).trans (hb3.below HB2.out.size (by have := HB2.out.size; simp; omega)))); clear hc1 hc2 hr3 hb3))
            go_quiet (fail)
            go_wp2
            go_ret2
            exact applyEnd_of HX.out (bel_drewN HB4.out _)
          have c1' : decide ((a.length : Int) < (p : Int)) = false := decide_eq_false (by omega)
          by_cases c2 : a.length - p < q
          · rw [if_pos (Or.inr c2)] at hA
            have HX := hid hA
            have c2' : (a.length : Int) - (p : Int) < (q : Int) := by omega
            clear hA
            go_enter Try.func12, Try.ntmps12
            go_wp2_with (first
              | (go_at_call_of 11 (Value.string ⟨a.toArray⟩); refine HA.out.mono ?_; rintro e w1 ⟨t1, rfl, -, hb1⟩; rw [h1]; have HB1 := hid hb1; clear hb1)
              | (go_at_call_of 11 (Value.string ⟨d.toArray⟩); refine (HD.out _).mono ?_; rintro e w2 ⟨t2, rfl, ht2, hb2⟩; obtain rfl := ht2 i HI.out; rw [h2]; have HB2 := hid (HB1.out.trans (hb2.mono HB1.out.size)); clear hb2 ht2)
              | (go_at_call 21; refine (HN2.out _ HR3.out.1).mono ?_; rintro e w4 ⟨rfl, hr4, hb4⟩; have d0 := hr4.c0; have d1 := hr4.c1; have HB4 := hid (HR3.out.2.trans (hb4.below HB2.out.size HR3.out.2.size)); clear hr4 hb4)
              | (go_at_call 21; obtain ⟨l1, bad1, hl1, hc1, hc2⟩ := HRD.out w2.heap.size _ (new_at (w := w2) rfl) (by omega); refine hc1.mono ?_; rintro e w3 ⟨rfl, hr3, hb3⟩; have HN2 := hid hc2; have HR3 := hid (And.intro hr3 ((HB2.out.alloc HB2.out.size _).trans (hb3.below HB2.out.size (by have := HB2.out.size; simp; omega)))); clear hc1 hc2 hr3 hb3))
            go_quiet (fail)
            go_wp2
            go_ret2
            exact applyEnd_of HX.out (bel_drewN HB4.out _)
          have c2' : decide ((a.length : Int) - (p : Int) < (q : Int)) = false := decide_eq_false (by omega)
          rw [if_neg (by omega)] at hA
          have htp := fun w => str_toU a p p rfl (by omega) w
          have hfq := fun w => str_fromU a ((a.length : Int) - (q : Int)) (a.length - q) (by omega) (by omega) w
          have hml2 : m.length ≤ 65536 := by omega
          have hl3 : (a.take p ++ m ++ a.drop (a.length - q)).length ≤ 500000 := by simp; omega
          have hcat : (⟨(a.take p).toArray⟩ ++ ⟨m.toArray⟩ ++ ⟨(a.drop (a.length - q)).toArray⟩ : ByteArray) = ⟨(a.take p ++ m ++ a.drop (a.length - q)).toArray⟩ := by
            simp [ByteArray.mk_append_mk]
          have hs1 : (a.take p).length ≤ 400000 := by simp; omega
          have hs2 : (a.drop (a.length - q)).length ≤ 400000 := by simp; omega
          generalize hto3 : a.take p ++ m ++ a.drop (a.length - q) = tt at hA hl3 hcat
          have HDl : Hid (∀ W, Calls Try.prog 22 #[.string ⟨a.toArray⟩, .string (⟨(a.take p).toArray⟩ ++ ⟨m.toArray⟩ ++ ⟨(a.drop (a.length - q)).toArray⟩)] W (DeltaEnd a tt W)) := fun W => by
            rw [hcat]
            exact rDelta_any a tt W (by omega) hl3
          have HCat := hid hcat
          clear hto3 hcat
          by_cases hst : (Fr.sound tt 83).isSome = true
          · have hdo : Fr.deltaOf a tt = (Fr.delta a tt, 0) := by unfold Fr.deltaOf; rw [if_pos ⟨h1, hst⟩]
            have HDO := hid hdo
            by_cases hdd : Fr.delta a tt = d
            · rw [if_pos ⟨hst, hdd⟩] at hA
              have HX := hid hA
              have hdd' : (Fr.delta a tt == d) = true := by simpa using hdd
              clear hA hdo hdd
              go_enter Try.func12, Try.ntmps12
              go_wp2_with (first
                | (go_at_call_of 11 (Value.string ⟨a.toArray⟩); refine HA.out.mono ?_; rintro e w1 ⟨t1, rfl, -, hb1⟩; rw [h1]; have HB1 := hid hb1; clear hb1)
                | (go_at_call_of 11 (Value.string ⟨d.toArray⟩); refine (HD.out _).mono ?_; rintro e w2 ⟨t2, rfl, ht2, hb2⟩; obtain rfl := ht2 i HI.out; rw [h2]; have HB2 := hid (HB1.out.trans (hb2.mono HB1.out.size)); clear hb2 ht2)
                | (go_at_call 21; refine (HN2.out _ HR3.out.1).mono ?_; rintro e w4 ⟨rfl, hr4, hb4⟩; have d0 := hr4.c0; have d1 := hr4.c1; have HB4 := hid (HR3.out.2.trans (hb4.below HB2.out.size HR3.out.2.size)); clear hr4 hb4)
                | (go_at_call 21; obtain ⟨l1, bad1, hl1, hc1, hc2⟩ := HRD.out w2.heap.size _ (new_at (w := w2) rfl) (by omega); refine hc1.mono ?_; rintro e w3 ⟨rfl, hr3, hb3⟩; have HN2 := hid hc2; have HR3 := hid (And.intro hr3 ((HB2.out.alloc HB2.out.size _).trans (hb3.below HB2.out.size (by have := HB2.out.size; simp; omega)))); clear hc1 hc2 hr3 hb3))
              go_quiet (fail)
              go_wp2
              go_quiet (fail)
              go_wp2_with (first
                | (go_at_call 22; refine (HDl.out _).mono ?_; rintro e w5 ⟨rfl, hb5⟩; rw [HDO.out]; have HB5 := hid (Below.trans (by first | exact bel_drewN HB4.out _ | exact bel_drewN (bel_drewN HB4.out _) _) (hb5.mono HB4.out.size)); clear hb5))
              go_ret2
              have h := applyEnd_of HX.out HB5.out
              simp only [] at h
              rw [← HCat.out] at h
              exact h
            · rw [if_neg (fun h => hdd h.2)] at hA
              have HX := hid hA
              have hdd' : (Fr.delta a tt == d) = false := by simpa using hdd
              clear hA hdo hdd
              go_enter Try.func12, Try.ntmps12
              go_wp2_with (first
                | (go_at_call_of 11 (Value.string ⟨a.toArray⟩); refine HA.out.mono ?_; rintro e w1 ⟨t1, rfl, -, hb1⟩; rw [h1]; have HB1 := hid hb1; clear hb1)
                | (go_at_call_of 11 (Value.string ⟨d.toArray⟩); refine (HD.out _).mono ?_; rintro e w2 ⟨t2, rfl, ht2, hb2⟩; obtain rfl := ht2 i HI.out; rw [h2]; have HB2 := hid (HB1.out.trans (hb2.mono HB1.out.size)); clear hb2 ht2)
                | (go_at_call 21; refine (HN2.out _ HR3.out.1).mono ?_; rintro e w4 ⟨rfl, hr4, hb4⟩; have d0 := hr4.c0; have d1 := hr4.c1; have HB4 := hid (HR3.out.2.trans (hb4.below HB2.out.size HR3.out.2.size)); clear hr4 hb4)
                | (go_at_call 21; obtain ⟨l1, bad1, hl1, hc1, hc2⟩ := HRD.out w2.heap.size _ (new_at (w := w2) rfl) (by omega); refine hc1.mono ?_; rintro e w3 ⟨rfl, hr3, hb3⟩; have HN2 := hid hc2; have HR3 := hid (And.intro hr3 ((HB2.out.alloc HB2.out.size _).trans (hb3.below HB2.out.size (by have := HB2.out.size; simp; omega)))); clear hc1 hc2 hr3 hb3))
              go_quiet (fail)
              go_wp2
              go_quiet (fail)
              go_wp2_with (first
                | (go_at_call 22; refine (HDl.out _).mono ?_; rintro e w5 ⟨rfl, hb5⟩; rw [HDO.out]; have HB5 := hid (Below.trans (by first | exact bel_drewN HB4.out _ | exact bel_drewN (bel_drewN HB4.out _) _) (hb5.mono HB4.out.size)); clear hb5))
              go_ret2
              exact applyEnd_of HX.out HB5.out
          · have hdo : Fr.deltaOf a tt = ([], 5) := by unfold Fr.deltaOf; rw [if_neg (fun h => hst h.2)]
            have HDO := hid hdo
            rw [if_neg (fun h => hst h.1)] at hA
            have HX := hid hA
            clear hA hdo
            go_enter Try.func12, Try.ntmps12
            go_wp2_with (first
              | (go_at_call_of 11 (Value.string ⟨a.toArray⟩); refine HA.out.mono ?_; rintro e w1 ⟨t1, rfl, -, hb1⟩; rw [h1]; have HB1 := hid hb1; clear hb1)
              | (go_at_call_of 11 (Value.string ⟨d.toArray⟩); refine (HD.out _).mono ?_; rintro e w2 ⟨t2, rfl, ht2, hb2⟩; obtain rfl := ht2 i HI.out; rw [h2]; have HB2 := hid (HB1.out.trans (hb2.mono HB1.out.size)); clear hb2 ht2)
              | (go_at_call 21; refine (HN2.out _ HR3.out.1).mono ?_; rintro e w4 ⟨rfl, hr4, hb4⟩; have d0 := hr4.c0; have d1 := hr4.c1; have HB4 := hid (HR3.out.2.trans (hb4.below HB2.out.size HR3.out.2.size)); clear hr4 hb4)
              | (go_at_call 21; obtain ⟨l1, bad1, hl1, hc1, hc2⟩ := HRD.out w2.heap.size _ (new_at (w := w2) rfl) (by omega); refine hc1.mono ?_; rintro e w3 ⟨rfl, hr3, hb3⟩; have HN2 := hid hc2; have HR3 := hid (And.intro hr3 ((HB2.out.alloc HB2.out.size _).trans (hb3.below HB2.out.size (by have := HB2.out.size; simp; omega)))); clear hc1 hc2 hr3 hb3))
            go_quiet (fail)
            go_wp2
            go_quiet (fail)
            go_wp2_with (first
              | (go_at_call 22; refine (HDl.out _).mono ?_; rintro e w5 ⟨rfl, hb5⟩; rw [HDO.out]; have HB5 := hid (Below.trans (by first | exact bel_drewN HB4.out _ | exact bel_drewN (bel_drewN HB4.out _) _) (hb5.mono HB4.out.size)); clear hb5))
            go_ret2
            exact applyEnd_of HX.out HB5.out
        · rw [if_pos hs4] at hA
          have hne : (i.take 4 == a.drop (a.length - 4)) = false := by simpa [Fr.last4] using hs4
          have HX := hid hA
          clear hA hs4
          go_enter Try.func12, Try.ntmps12
          go_wp2_with (first
            | (go_at_call_of 11 (Value.string ⟨a.toArray⟩); refine HA.out.mono ?_; rintro e w1 ⟨t1, rfl, -, hb1⟩; rw [h1]; have HB1 := hid hb1; clear hb1)
            | (go_at_call_of 11 (Value.string ⟨d.toArray⟩); refine (HD.out _).mono ?_; rintro e w2 ⟨t2, rfl, ht2, hb2⟩; obtain rfl := ht2 i HI.out; rw [h2]; have HB2 := hid (HB1.out.trans (hb2.mono HB1.out.size)); clear hb2 ht2)
            | (go_at_call 21; refine (HN2.out _ HR3.out.1).mono ?_; rintro e w4 ⟨rfl, hr4, hb4⟩; have d0 := hr4.c0; have d1 := hr4.c1; have HB4 := hid (HR3.out.2.trans (hb4.below HB2.out.size HR3.out.2.size)); clear hr4 hb4)
            | (go_at_call 21; obtain ⟨l1, bad1, hl1, hc1, hc2⟩ := HRD.out w2.heap.size _ (new_at (w := w2) rfl) (by omega); refine hc1.mono ?_; rintro e w3 ⟨rfl, hr3, hb3⟩; have HN2 := hid hc2; have HR3 := hid (And.intro hr3 ((HB2.out.alloc HB2.out.size _).trans (hb3.below HB2.out.size (by have := HB2.out.size; simp; omega)))); clear hc1 hc2 hr3 hb3))
          go_quiet (fail)
          go_wp2
          go_ret2
          exact applyEnd_of HX.out (bel_drewN HB4.out _)

end Go.Proofs.Ytfldcmdhneegmaa
