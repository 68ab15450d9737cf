/-
  package frame's WALKS, 3: open.
-/
import Derived.Test.YtfldcmdhneegmaaFrC
import Derived.Deep.RegionWith
namespace Go.Proofs.Ytfldcmdhneegmaa
open Go.RowKit Go.Lib

/-- What open answers. -/
def OpenEnd (F : Nat → Prop) (l : List UInt8) (kind : UInt8) (w : World) (e : Ending) (w' : World) : Prop :=
  Below w.heap.size w w' ∧
    match Fr.sound l kind with
    | some _ => ∃ v', e = .returned (.pointer (some ⟨w.heap.size, 0, none⟩)) ∧ RdAt w' w.heap.size v' 1 ∧ BytesAt F w' v' (l.take (l.length - 4))
    | none => BytesPanic e
theorem openEnd_no {F : Nat → Prop} {l : List UInt8} {kind : UInt8} {w w' : World} {e : Ending} (h : Fr.sound l kind = none) (hb : Below w.heap.size w w') (he : BytesPanic e) : OpenEnd F l kind w e w' := by
  unfold OpenEnd
  rw [h]
  exact ⟨hb, he⟩
/-- Where a callee panics in a region that draws, the region's walk wants one way left: this is it. -/
theorem ended_here {G : Prop} (P : Program) (w : World) (g : G) (_ : wpAny P .any #[] (fun _ _ _ => True) 0 #[] ⟨#[], []⟩ w) : G := g
theorem res_two {W : World} {b : Nat} {x y : Value} {t : TypeId} (h : W.heap[b]? = some (.cells #[x, y] t (0, 0))) : W.cell? ⟨b, 0, none⟩ = some x ∧ W.cell? ⟨b, 1, none⟩ = some y ∧ W.frozen? ⟨b, 0, none⟩ = false ∧ W.frozen? ⟨b, 1, none⟩ = false := by
  simp [World.cell?, World.frozen?, h]

set_option maxHeartbeats 2000000 in
set_option maxRecDepth 1000000 in
theorem fOpen_any (F : Nat → Prop) (v : Value) (l : List UInt8) (kind : UInt8) (w : World) (hv : BytesAt F w v l) (hl : l.length ≤ 1000000) :
    Calls Try.prog 34 #[.int .u8 kind.toNat, v] w (OpenEnd F l kind w) := by
  obtain ⟨ao, cap, rfl, hcap, -⟩ := RowAt.slice hv
  by_cases h5 : l.length < 5
  · have hn : Fr.sound l kind = none := by unfold Fr.sound; rw [if_neg (by rintro ⟨h, -⟩; omega)]
    have HX := hid hn
    have h4 : decide ((4 : Int) < (l.length : Int)) = false := decide_eq_false (by omega)
    have h4' : decide ((0 : Int) < (l.length : Int) - 4) = false := decide_eq_false (by omega)
    clear hn hv
    go_enter Try.func34, Try.ntmps34
    go_wp2_with (go_at_call_of 35 (Value.bool false); refine (fNeed_false w.heap.size 0 _ _ (by simp)).mono ?_; rintro e w2 ⟨rfl, hw⟩; subst hw)
    exact ⟨rfl, openEnd_no HX.out ((Below.refl _ _).alloc (Nat.le_refl _) _) ⟨_, _, rfl⟩⟩
  · have h4 : decide ((4 : Int) < (l.length : Int)) = true := decide_eq_true (by omega)
    have h4' : decide ((0 : Int) < (l.length : Int) - 4) = true := decide_eq_true (by omega)
    have hA : ∀ o, BytesAt F (w.alloc o) (.slice ao l.length cap) l := fun o => hv.below ((Below.refl _ _).alloc (Nat.le_refl _) _)
    obtain ⟨b1, o1, rfl, c1⟩ := BytesAt.get (hA (.cells #[.slice none 0 0, .int .i64 0] 83)) (i := 0) (by omega)
    simp only [Nat.add_zero] at c1
    by_cases hk : l[0] = kind
    · have hk' : (((l[0]'(by omega)).toNat : Int) == (kind.toNat : Int)) = true := by rw [hk]; simp
      have hS : Fr.sound l kind = if Fr.sum (l.take (l.length - 4)) = l.drop (l.length - 4) then some ((l.take (l.length - 4)).drop 1) else none := by
        have hh : l.head? = some kind := by
          cases l with
          | nil => simp at h5
          | cons b t => simpa using hk
        unfold Fr.sound
        by_cases c : Fr.sum (l.take (l.length - 4)) = l.drop (l.length - 4)
        · rw [if_pos c, if_pos ⟨by omega, hh, c⟩]
        · rw [if_neg c, if_neg (fun h => c h.2.2)]
      obtain ⟨a1, p1, hs1, hv1⟩ := hv.head ((l.length : Int) - 4) (l.length - 4) (by omega) (by omega) hcap
      have HV1 := hid hv1
      have HC1 := hid (fSum_any F _ (l.take (l.length - 4)) (w.alloc (.cells #[.slice none 0 0, .int .i64 0] 83)) (hv1.below ((Below.refl _ _).alloc (Nat.le_refl _) _)))
      have HC2 := hid (fSumOf_any F _ l (w.alloc (.cells #[.slice none 0 0, .int .i64 0] 83)) (hA _) (by omega) hl)
      clear hv hA hk hv1
      have c2 : (w.alloc (.cells #[.slice none 0 0, .int .i64 0] 83)).heap[w.heap.size]? = some (.cells #[.slice none 0 0, .int .i64 0] 83 (0, 0)) := heap_alloc_new w _
      have hB2 : Below w.heap.size w (w.alloc (.cells #[.slice none 0 0, .int .i64 0] 83)) := (Below.refl _ _).alloc (Nat.le_refl _) _
      have C2 := hid c2
      have HB2 := hid hB2
      clear c2 hB2
      have hd4 : (l.drop (l.length - 4)).length = 4 := by rw [List.length_drop]; omega
      have hsi := Fr.sum_iff (m := l.take (l.length - 4)) hd4
      by_cases hsum : Fr.sum (l.take (l.length - 4)) = l.drop (l.length - 4)
      · rw [if_pos hsum] at hS
        have hsd : ((Fr.sumN (l.take (l.length - 4)) : Int) == (Fr.val (l.drop (l.length - 4)) : Int)) = true := by rw [hsi.1 hsum]; simp
        have HS := hid hS
        clear hS hsum hsi hd4
        go_enter Try.func34, Try.ntmps34
        go_wp2_with (first
          | (go_at_call 43; refine HC1.out.mono ?_; rintro e w3 ⟨rfl, hw⟩; subst hw)
          | (go_at_call 16; refine HC2.out.mono ?_; rintro e w3 ⟨rfl, hw⟩; subst hw)
          | (go_at_call_of 35 (Value.bool true); refine (fNeed_true w.heap.size _ _).mono ?_; rintro e w2 ⟨rfl, hw⟩; subst hw))
        go_ret
        unfold OpenEnd
        rw [HS.out]
        exact ⟨(Below.refl _ _).alloc (Nat.le_refl _) _, _, rfl, heap_alloc_new w _, HV1.out.below ((Below.refl _ _).alloc (Nat.le_refl _) _)⟩
      · rw [if_neg hsum] at hS
        have hsd : ((Fr.sumN (l.take (l.length - 4)) : Int) == (Fr.val (l.drop (l.length - 4)) : Int)) = false := by
          simp
          intro e
          exact hsum (hsi.2 (by omega))
        have HS := hid hS
        clear hS hsum hsi hd4
        go_enter Try.func34, Try.ntmps34
        go_wp2_with (first
          | (go_at_call 43; refine HC1.out.mono ?_; rintro e w3 ⟨rfl, hw⟩; subst hw)
          | (go_at_call 16; refine HC2.out.mono ?_; rintro e w3 ⟨rfl, hw⟩; subst hw)
          | (go_at_call_of 35 (Value.bool true); refine (fNeed_true w.heap.size _ _).mono ?_; rintro e w2 ⟨rfl, hw⟩; subst hw)
          | (go_at_call_of 35 (Value.bool false); refine (fNeed_false w.heap.size 0 _ _ (by simp)).mono ?_; rintro e w4 ⟨rfl, hw⟩; subst hw))
        exact ⟨rfl, openEnd_no HS.out HB2.out ⟨_, _, rfl⟩⟩
    · have hk' : (((l[0]'(by omega)).toNat : Int) == (kind.toNat : Int)) = false := by
        simp
        intro e
        exact hk (UInt8.toNat_inj.1 (by omega))
      have hn : Fr.sound l kind = none := by
        unfold Fr.sound
        rw [if_neg]
        rintro ⟨-, h, -⟩
        apply hk
        cases l with
        | nil => simp at h5
        | cons b t => simpa using h
      have HX := hid hn
      clear hn hv hA hk
      go_enter Try.func34, Try.ntmps34
      go_wp2_with (first
        | (go_at_call_of 35 (Value.bool true); refine (fNeed_true w.heap.size _ _).mono ?_; rintro e w2 ⟨rfl, hw⟩; subst hw)
        | (go_at_call_of 35 (Value.bool false); refine (fNeed_false w.heap.size 0 _ _ (by simp)).mono ?_; rintro e w2 ⟨rfl, hw⟩; subst hw))
      exact ⟨rfl, openEnd_no HX.out ((Below.refl _ _).alloc (Nat.le_refl _) _) ⟨_, _, rfl⟩⟩

end Go.Proofs.Ytfldcmdhneegmaa
