import Derived.Test.YtfldcmdhneegmaaGreatDoorZ57
import Derived.Test.YtfldcmdhneegmaaGreatDoorZ69
import Derived.Laws.DeepNot64

/-
  package frame's WALKS, 8: the Reader's Moment and Text.
-/
namespace Go.Proofs.YtfldcmdhneegmaaGreatDoor
open Go.RowKit Go.Lib

/-- What Moment answers. -/
def PMomEnd (l : List UInt8) (k : Nat) (v : Value) (b : Nat) (w : World) (e : Ending) (w' : World) : Prop :=
  But b w w' ∧
    match Fr.rd (l.drop k) with
    | some (n, r) => e = .returned (.int .i64 (Fr.zag n)) ∧ RdAt w' b v (l.length - r.length)
    | none => BytesPanic e

set_option maxHeartbeats 2000000 in
set_option maxRecDepth 1000000 in
theorem fMoment_any (F : Nat → Prop) (v : Value) (l : List UInt8) (b k : Nat) (w : World) (hr : RdAt w b v k) (hv : BytesAt F w v l) (hF : ¬ F b) (hk : k ≤ l.length) (hl : l.length ≤ 1000000) :
    Calls Tryz.prog 115 #[.pointer (some ⟨b, 0, none⟩)] w (PMomEnd l k v b w) := by
  have HC := hid (fNumber_any F v l b k w hr hv hF hk hl)
  clear hr hv
  cases hx : Fr.rd (l.drop k) with
  | none =>
    have HX := hid hx
    clear hx
    go_enter Tryz.func115, Tryz.ntmps115
    go_wp2_with (go_at_call 185; refine HC.out.mono ?_; rintro e w1 ⟨hb, he⟩; rw [HX.out] at he; obtain ⟨n1, s1, rfl⟩ := he; have HB := hid hb; clear hb)
    refine ⟨rfl, HB.out, ?_⟩
    rw [HX.out]
    exact ⟨_, _, rfl⟩
  | some x =>
    obtain ⟨n, r⟩ := x
    have hn := (Fr.rd_back hx).2
    have HX := hid hx
    clear hx
    have ha : bits .and .u64 (n : Int) 1 = ((n % 2 : Nat) : Int) := by
      have h1 := u64_and_nat n 1 hn (by omega)
      rw [Nat.and_one_is_mod] at h1
      exact h1
    by_cases h2 : n % 2 = 1
    · have h2' : (((n % 2 : Nat) : Int) == 1) = true := by rw [h2]; rfl
      have hnot : bits .xor .i64 (-1) ((n : Int) / 2) = -1 - (n : Int) / 2 := by
        have := i64_not (n / 2) (by omega)
        rw [show (((n / 2 : Nat)) : Int) = (n : Int) / 2 by omega] at this
        exact this
      have hz : Fr.zag n = -1 - (n : Int) / 2 := by unfold Fr.zag; rw [if_pos h2]; omega
      have HZ := hid hz
      clear hz h2
      go_enter Tryz.func115, Tryz.ntmps115
      go_wp2_with (go_at_call 185; refine HC.out.mono ?_; rintro e w1 ⟨hb, he⟩; rw [HX.out] at he; obtain ⟨rfl, hr2⟩ := he; have HB := hid (And.intro hb hr2); clear hb hr2)
      go_ret
      refine ⟨HB.out.1, ?_⟩
      rw [HX.out]
      refine ⟨?_, HB.out.2⟩
      rw [HZ.out]
      rfl
    · have h2' : (((n % 2 : Nat) : Int) == 1) = false := by simp; omega
      have hz : Fr.zag n = (n : Int) / 2 := by unfold Fr.zag; rw [if_neg h2]; omega
      have HZ := hid hz
      clear hz h2
      go_enter Tryz.func115, Tryz.ntmps115
      go_wp2_with (go_at_call 185; refine HC.out.mono ?_; rintro e w1 ⟨hb, he⟩; rw [HX.out] at he; obtain ⟨rfl, hr2⟩ := he; have HB := hid (And.intro hb hr2); clear hb hr2)
      go_ret
      refine ⟨HB.out.1, ?_⟩
      rw [HX.out]
      refine ⟨?_, HB.out.2⟩
      rw [HZ.out]
      rfl

theorem BytesAt.tailS {F : Nat → Prop} {w : World} {a : Addr} {cap : Nat} {l : List UInt8} (h : BytesAt F w (.slice (some a) l.length cap) l) (i : Int) (k : Nat) (hi : i = k) (hk : k ≤ l.length) :
    ∃ a' c', l.length - k ≤ c' ∧ (∀ W, (Instr.slice 25 (.slice (some a) l.length cap) (some (.int .i64 i)) none none).run Tryz.prog W = .ok (.slice (some a') (l.length - k) c') W) ∧ BytesAt F w (.slice (some a') (l.length - k) c') (l.drop k) := by
  subst hi
  have hcap : l.length ≤ cap := by
    obtain ⟨ao, cap', he, h1, -⟩ := RowAt.slice h
    cases he
    exact h1
  have hsl : ∃ a' c', l.length - k ≤ c' ∧ Go.sliced (some a) k l.length cap 1 = .slice (some a') (l.length - k) c' := by
    unfold Go.sliced
    split
    · exact ⟨_, _, by omega, rfl⟩
    · exact ⟨_, _, by omega, rfl⟩
  obtain ⟨a', c', hc, e⟩ := hsl
  refine ⟨a', c', hc, fun W => ?_, e ▸ h.from k hk⟩
  rw [← e, run_slice_l W 25 (some a) l.length cap (by rw [Tryz.elemBytes]; exact Tryz.underlying25) .i64 k (by omega) (by omega), Tryz.elemBytes, Tryz.sizeOf5]
  simp [Result.andThen]
theorem BytesAt.headUN {F : Nat → Prop} {w : World} {a : Addr} {n cap : Nat} {l : List UInt8} (h : BytesAt F w (.slice (some a) n cap) l) (k : Nat) (hk : k ≤ n) (hc : n ≤ cap) (hn : n = l.length) :
    ∃ a' c', (∀ W, (Instr.slice 25 (.slice (some a) n cap) none (some (.int .u64 k)) none).run Tryz.prog W = .ok (.slice (some a') k c') W) ∧ BytesAt F w (.slice (some a') k c') (l.take k) := by
  subst hn
  have hsl : ∃ a' c', Go.sliced (some a) 0 k cap 1 = .slice (some a') k c' := by
    unfold Go.sliced
    split
    · exact ⟨_, _, rfl⟩
    · exact ⟨_, _, rfl⟩
  obtain ⟨a', c', e⟩ := hsl
  refine ⟨a', c', fun W => ?_, e ▸ h.to k hk⟩
  rw [← e, run_slice_h W 25 (some a) l.length cap (by rw [Tryz.elemBytes]; exact Tryz.underlying25) .u64 k (by omega) (by omega), Tryz.elemBytes, Tryz.sizeOf5]
  simp [Result.andThen]

/-- What Text answers. -/
def TextEnd (l : List UInt8) (k : Nat) (v : Value) (b : Nat) (w : World) (e : Ending) (w' : World) : Prop :=
  But b w w' ∧
    match Fr.rd (l.drop k) with
    | some (n, r) => if n ≤ r.length then e = .returned (.string ⟨(r.take n).toArray⟩) ∧ RdAt w' b v (l.length - r.length + n) else BytesPanic e
    | none => BytesPanic e
theorem rd_suffix {l : List UInt8} {k n : Nat} {r : List UInt8} (h : Fr.rd (l.drop k) = some (n, r)) : r.length ≤ l.length ∧ l.drop (l.length - r.length) = r := by
  have e := (Fr.rd_back h).1
  have e2 : l = (l.take k ++ Fr.num n) ++ r := by rw [List.append_assoc, ← e, List.take_append_drop]
  have e3 : l.length = (l.take k ++ Fr.num n).length + r.length := by
    conv => lhs; rw [e2]
    rw [List.length_append]
  refine ⟨by omega, ?_⟩
  conv => lhs; rw [e2]
  rw [List.length_append, Nat.add_sub_cancel, List.drop_left]

set_option maxHeartbeats 2000000 in
set_option maxRecDepth 1000000 in
theorem fText_any (F : Nat → Prop) (a : Addr) (cap : Nat) (l : List UInt8) (b k : Nat) (w : World) (hr : RdAt w b (.slice (some a) l.length cap) k) (hv : BytesAt F w (.slice (some a) l.length cap) l) (hF : ¬ F b) (hk : k ≤ l.length) (hl : l.length ≤ 1000000) :
    Calls Tryz.prog 184 #[.pointer (some ⟨b, 0, none⟩)] w (TextEnd l k (.slice (some a) l.length cap) b w) := by
  have HC := hid (fNumber_any F _ l b k w hr hv hF hk hl)
  have HV := hid hv
  clear hr hv
  cases hx : Fr.rd (l.drop k) with
  | none =>
    have HX := hid hx
    clear hx
    go_enter Tryz.func184, Tryz.ntmps184
    go_wp2_with (go_at_call 185; refine HC.out.mono ?_; rintro e w1 ⟨hb, he⟩; rw [HX.out] at he; obtain ⟨n1, s1, rfl⟩ := he; have HB := hid hb; clear hb)
    refine ⟨rfl, HB.out, ?_⟩
    rw [HX.out]
    exact ⟨_, _, rfl⟩
  | some x =>
    obtain ⟨n, r⟩ := x
    have hn := (Fr.rd_back hx).2
    obtain ⟨hrl, hdr⟩ := rd_suffix hx
    obtain ⟨a1, c1, hc1, hs1, hv1⟩ := HV.out.tailS ((l.length - r.length : Nat) : Int) (l.length - r.length) rfl (by omega)
    rw [hdr] at hv1
    have hlr : l.length - (l.length - r.length) = r.length := by omega
    rw [hlr] at hs1 hv1 hc1
    have HX := hid hx
    have HV1 := hid hv1
    clear hx hdr hv1 hlr
    by_cases hle : n ≤ r.length
    · obtain ⟨a2, c2, hs2, hv2⟩ := HV1.out.headUN n hle hc1 rfl
      have HV2 := hid hv2
      clear hv2
      have hle' : (n : Int) ≤ (r.length : Int) := by omega
      go_enter Tryz.func184, Tryz.ntmps184
      go_wp2_with (first
        | (go_at_call 185; refine HC.out.mono ?_; rintro e w1 ⟨hb, he⟩; rw [HX.out] at he; obtain ⟨rfl, hr2⟩ := he; have d0 := hr2.c0; have d1 := hr2.c1; have df := hr2.f 1; have HB := hid (And.intro hb hr2); clear hb hr2)
        | (go_at_call_of 113 (Value.bool true); refine (fNeed_true b _ _).mono ?_; rintro e w2 ⟨rfl, hw⟩; have hw' := hw.symm; subst hw'))
      go_quiet (fail)
      have htx := fun (m : Int) => BytesAt.text (w := (w1.drewN nq).setCell ⟨b, 1, none⟩ (.int .i64 m)) (HV2.out.but ((HB.out.1.drewR nq).trans (but_set _ b 1 _)) hF) (by intro e; cases e)
      go_wp2_with (first
        | (go_at_call_of 113 (Value.bool true); refine (fNeed_true b _ _).mono ?_; rintro e w2 ⟨rfl, hw⟩; have hw' := hw.symm; subst hw'))
      go_ret
      refine ⟨(HB.out.1.drewR nq).trans (but_set _ b 1 _), ?_⟩
      rw [HX.out]
      simp only []
      rw [if_pos hle]
      exact ⟨rfl, (show RdAt (w1.drewN nq) b _ _ from HB.out.2).set _ _ (by omega)⟩
    · have hle' : decide ((n : Int) ≤ (r.length : Int)) = false := decide_eq_false (by omega)
      go_enter Tryz.func184, Tryz.ntmps184
      go_wp2_with (first
        | (go_at_call 185; refine HC.out.mono ?_; rintro e w1 ⟨hb, he⟩; rw [HX.out] at he; obtain ⟨rfl, hr2⟩ := he; have d0 := hr2.c0; have d1 := hr2.c1; have HB := hid (And.intro hb hr2); clear hb hr2))
      go_quiet (fail)
      go_wp2_with (first
        | (go_at_call_of 113 (Value.bool false); refine (fNeed_false b _ _ _ (show (w1.drewN nq).cell? ⟨b, 1, none⟩ = _ from d1)).mono ?_; rintro e w2 ⟨rfl, hw⟩; have hw' := hw.symm; subst hw'))
      refine ⟨rfl, HB.out.1.drewR nq, ?_⟩
      rw [HX.out]
      simp only []
      rw [if_neg hle]
      exact ⟨_, _, rfl⟩

end Go.Proofs.YtfldcmdhneegmaaGreatDoor
