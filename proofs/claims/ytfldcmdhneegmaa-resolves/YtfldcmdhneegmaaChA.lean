/-
  package frame's WALKS: Rest, Check.
-/
import Derived.Test.YtfldcmdhneegmaaFrZb
namespace Go.Proofs.Ytfldcmdhneegmaa
open Go.RowKit Go.Lib

theorem But.belowB {b B : Nat} {w w' : World} (h : But b w w') (hb : B ≤ b) (hw : B ≤ w.heap.size) : Below B w w' := ⟨h.os, h.tape, h.output, h.size, fun i hi => h.block i (by omega) (by intro e; cases e; omega)⟩
set_option maxHeartbeats 1000000 in
set_option maxRecDepth 1000000 in
theorem fRest_any (F : Nat → Prop) (v : Value) (l : List UInt8) (b k : Nat) (w : World) (hr : RdAt w b v k) (hv : BytesAt F w v l) (h0 : 0 < l.length) (hk : k ≤ l.length) :
    Calls Try.prog 24 #[.pointer (some ⟨b, 0, none⟩)] w fun e w' => ∃ r, e = .returned r ∧ r ≠ .slice none 0 0 ∧ (¬ F b → BytesAt F w' r (l.drop k)) ∧ RdAt w' b v l.length ∧ But b w w' := by
  obtain ⟨ao, cap, rfl, -, -⟩ := RowAt.slice hv
  obtain ⟨b1, o1, rfl, -⟩ := BytesAt.get hv h0
  obtain ⟨v2, hn2, hs2, hv2⟩ := hv.tail (k : Int) k rfl hk
  have c0 := hr.c0
  have c1 := hr.c1
  have f1 := hr.f 1
  have HR := hid hr
  have HV2 := hid hv2
  clear hr hv hv2
  go_enter Try.func24, Try.ntmps24
  go_wp2
  go_quiet (fail)
  go_wp2
  go_ret
  exact ⟨_, rfl, hn2, fun hF => BytesAt.but HV2.out ((but_set _ b 1 _).drew) hF, (show RdAt (w.drewN _) b _ k from HR.out).set _ l.length rfl, (but_set _ b 1 _).drew⟩

/-- What Check answers. -/
def CheckEnd (l : List UInt8) (kind : UInt8) (w : World) (e : Ending) (w' : World) : Prop :=
  Below w.heap.size w w' ∧ ((Fr.sound l kind).isSome = true → e = .returned .nilIface) ∧ ((Fr.sound l kind).isSome = false → ∃ (n : Int) (s : ByteArray), e = .returned (.iface 79 (.agg #[.int .i64 n, .string s])))
theorem sound_five {l : List UInt8} {kind : UInt8} {c : List UInt8} (h : Fr.sound l kind = some c) : 5 ≤ l.length := by
  unfold Fr.sound at h
  split at h
  · rename_i h'; exact h'.1
  · cases h

set_option maxHeartbeats 1000000 in
set_option maxRecDepth 1000000 in
theorem fCheck_any (F : Nat → Prop) (v : Value) (l : List UInt8) (kind : UInt8) (w : World) (hv : BytesAt F w v l) (hl : l.length ≤ 1000000) :
    Calls Try.prog 13 #[.int .u8 kind.toNat, v] w (CheckEnd l kind w) := by
  have hmf : ∀ (fn : Fn) (first cap : Array Value) (w : World), (Instr.makeFunc fn first cap).run Try.prog w = .ok (.func fn first cap) w := fun _ _ _ _ => rfl
  cases hs : Fr.sound l kind with
  | none =>
    have HC := hid (readB_unsound F v l kind (.func (.func 24) #[] #[]) w hv hl hs)
    have HS := hid hs
    clear hv hs
    go_enter Try.func13, Try.ntmps13
    go_wp2_with (go_at_call 23; refine HC.out.mono ?_; rintro e w1 ⟨n1, s1, rfl, hb⟩; have HB := hid hb; clear hb)
    go_ret
    exact ⟨HB.out, fun h => (by rw [HS.out] at h; cases h), fun _ => ⟨_, _, rfl⟩⟩
  | some c =>
    have h5 := sound_five hs
    have hlen : (l.take (l.length - 4)).length = l.length - 4 := by rw [List.length_take]; omega
    have HC := hid (readB_ok F v l c kind w hv hl hs (fun _ _ => True) (fun W v' hb hr hv' => (fRest_any F v' (l.take (l.length - 4)) (w.heap.size + 1) 1 W hr hv' (by omega) (by omega)).mono fun e w' ⟨r, he, _, _, h2, h3⟩ => ⟨r, he, by rw [hlen] at h2; exact h2, h3.belowB (Nat.le_refl _) (Nat.le_of_lt (lt_of_block hr)), trivial⟩))
    have HS := hid hs
    clear hv hs
    go_enter Try.func13, Try.ntmps13
    go_wp2_with (go_at_call 23; refine HC.out.mono ?_; rintro e w1 ⟨r1, w2, q2, rfl, hw, -, hb⟩; have HB := hid (And.intro hw hb); clear hw hb)
    go_ret
    refine ⟨?_, fun _ => rfl, fun h => (by rw [HS.out] at h; cases h)⟩
    rw [HB.out.1]
    exact (bel_drewN HB.out.2 _).setCell (Nat.le_refl _) _

end Go.Proofs.Ytfldcmdhneegmaa
