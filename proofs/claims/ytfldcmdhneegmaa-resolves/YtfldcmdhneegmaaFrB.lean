/-
  package spotterref's WALKS of frames, 2: the Reader's number and moment.
-/
import Derived.Test.YtfldcmdhneegmaaFrA
namespace Go.Proofs.Ytfldcmdhneegmaa
open Go.RowKit Go.Lib

/-- The document's Reader in memory: what is left of the bytes; is something wrong? -/
def RdrAt (w : World) (b : Nat) (l : List UInt8) (bad : Bool) : Prop := w.heap[b]? = some (.cells #[.string ⟨l.toArray⟩, .bool bad] 62 (0, 0))
theorem RdrAt.c0 {w : World} {b : Nat} {l : List UInt8} {bad : Bool} (h : RdrAt w b l bad) : w.cell? ⟨b, 0, none⟩ = some (.string ⟨l.toArray⟩) := by
  unfold RdrAt at h
  simp [World.cell?, h]
theorem RdrAt.c1 {w : World} {b : Nat} {l : List UInt8} {bad : Bool} (h : RdrAt w b l bad) : w.cell? ⟨b, 1, none⟩ = some (.bool bad) := by
  unfold RdrAt at h
  simp [World.cell?, h]
theorem RdrAt.f {w : World} {b : Nat} {l : List UInt8} {bad : Bool} (h : RdrAt w b l bad) (i : Nat) : w.frozen? ⟨b, i, none⟩ = false := by
  unfold RdrAt at h
  simp [World.frozen?, h]
theorem RdrAt.turned {w : World} {b : Nat} {l : List UInt8} {bad : Bool} (h : RdrAt w b l bad) (q : Nat) (x : Bool) (s : ByteArray) (r : List UInt8) (hs : s = ⟨r.toArray⟩) :
    RdrAt (((w.drewN q).setCell ⟨b, 1, none⟩ (.bool x)).setCell ⟨b, 0, none⟩ (.string s)) b r x ∧ But b w (((w.drewN q).setCell ⟨b, 1, none⟩ (.bool x)).setCell ⟨b, 0, none⟩ (.string s)) := by
  subst hs
  have h2 : (w.drewN q).heap[b]? = some (.cells #[.string ⟨l.toArray⟩, .bool bad] 62 (0, 0)) := h
  exact ⟨(blk_setF (blk_setF h2 _).2 _).1, ((but_set (w.drewN q) b 1 _).trans (but_set _ b 0 _)).drew⟩
theorem RdrAt.to {w : World} {b : Nat} {l : List UInt8} {x y : Bool} (h : RdrAt w b l x) (e : x = y) : RdrAt w b l y := e ▸ h

theorem rd_next {l : List UInt8} {k N : Nat} (hk : k < 10) (hl : k < l.length) : Fr.rdGo (10 - k) k N (l.drop k) = if k = 9 ∧ 1 < l[k].toNat then none else if l[k].toNat < 128 then some (N + l[k].toNat * 128 ^ k, decide (0 < k ∧ l[k] = 0), l.drop (k + 1)) else Fr.rdGo (10 - (k + 1)) (k + 1) (N + l[k].toNat % 128 * 128 ^ k) (l.drop (k + 1)) := by
  rw [List.drop_eq_getElem_cons hl, show 10 - k = (10 - (k + 1)) + 1 by omega]
  rfl
/-- What the Reader's number answers. -/
def NumEnd (l : List UInt8) (bad : Bool) (top b : Nat) (w : World) (e : Ending) (w' : World) : Prop :=
  But b w w' ∧
    match Fr.rdRaw l with
    | some (n, z, r) => e = .returned (.int .u64 n) ∧ RdrAt w' b r (bad || decide (top < n) || z)
    | none => e = .returned (.int .u64 0) ∧ RdrAt w' b [] true
theorem numEnd_none {l : List UInt8} {bad : Bool} {top b : Nat} {w w' : World} (h : Fr.rdRaw l = none) (h1 : But b w w') (h2 : RdrAt w' b [] true) : NumEnd l bad top b w (.returned (.int .u64 0)) w' := by
  unfold NumEnd
  rw [h]
  exact ⟨h1, rfl, h2⟩
theorem numEnd_some {l : List UInt8} {bad : Bool} {top b : Nat} {w w' : World} {n : Nat} {z : Bool} {r : List UInt8} (h : Fr.rdRaw l = some (n, z, r)) (h1 : But b w w') (h2 : RdrAt w' b r (bad || decide (top < n) || z)) : NumEnd l bad top b w (.returned (.int .u64 n)) w' := by
  unfold NumEnd
  rw [h]
  exact ⟨h1, rfl, h2⟩

set_option maxHeartbeats 4000000 in
set_option maxRecDepth 1000000 in
theorem rrNumber_any (l : List UInt8) (bad : Bool) (top : Nat) (b : Nat) (w : World) (hb : RdrAt w b l bad) (hl : l.length ≤ 1000000) :
    Calls Try.prog 21 #[.pointer (some ⟨b, 0, none⟩), .int .u64 top] w (NumEnd l bad top b w) := by
  have hs : (⟨l.toArray⟩ : ByteArray).size = l.length := by simp [ByteArray.size]
  have c0 : w.cell? ⟨b, 0, none⟩ = some (.string ⟨l.toArray⟩) := hb.c0
  have c1 : w.cell? ⟨b, 1, none⟩ = some (.bool bad) := hb.c1
  have f0 : w.frozen? ⟨b, 0, none⟩ = false := hb.f 0
  have f1 : w.frozen? ⟨b, 1, none⟩ = false := hb.f 1
  have HR := hid hb
  clear hb
  go_enter Try.func21, Try.ntmps21
  go_wp2
  go_loopw [5, 6] (fun n i wr => ∃ (k N : Nat), k ≤ 10 ∧ k ≤ l.length ∧ N < 128 ^ k ∧ i = .int .i64 k ∧ n = .int .u64 N ∧ Hid (Fr.rdGo (10 - k) k N (l.drop k) = Fr.rdRaw l ∧ ∃ q, wr = w.drewN q)) (fun _ i _ => l.length - (intOf i).toNat)
  case atStart => exact ⟨0, 0, by omega, by omega, by decide, rfl, rfl, rfl, 0, rfl⟩
  case round =>
    obtain ⟨k, N, hk10, hkl, hN, rfl, rfl, hr⟩ := hrel
    obtain ⟨q, rfl⟩ := hr.out.2
    by_cases hgo : k < 10 ∧ k < l.length
    · obtain ⟨hk, hlt⟩ := hgo
      have hk' : (k : Int) < 10 := by omega
      have hlt' : (k : Int) < l.length := by omega
      have hix := fun w => str_index l k k rfl hlt w
      have hbb := l[k].toNat_lt
      have hnx := rd_next (N := N) hk hlt
      rw [hr.out.1] at hnx
      generalize hbk : l[k] = bk at *
      have hb8 : bk.toNat < 256 := hbb
      clear hbb
      have hz : bk = 0 ↔ bk.toNat = 0 := ⟨fun e => by rw [e]; rfl, fun e => UInt8.toNat_inj.1 e⟩
      simp only [hz] at hnx
      clear hz
      generalize bk.toNat = bn at hnx hix hb8
      clear hbk bk
      have hT := HR.out.turned
      by_cases h9 : k = 9 ∧ 1 < bn
      · rw [if_pos h9] at hnx
        have h9a : ((k : Int) == 9) = true := by simp; omega
        have h9b : (1 : Int) < bn := by omega
        have HX := hid hnx
        clear hnx hr h9
        go_wp2
        go_ret
        exact numEnd_none HX.out (hT _ _ _ [] rfl).2 (hT _ _ _ [] rfl).1
      · rw [if_neg h9] at hnx
        have hlt64 : N + bn % 128 * 128 ^ k < 18446744073709551616 := by
          by_cases c9 : k = 9
          · subst c9
            have : bn ≤ 1 := by omega
            have : bn % 128 ≤ 1 := by omega
            have := Nat.mul_le_mul_right (128 ^ 9) this
            omega
          · have h1 : bn % 128 * 128 ^ k ≤ 127 * 128 ^ k := Nat.mul_le_mul_right _ (by omega)
            have h2 := pow_le (k := k + 1) (by omega)
            rw [Nat.pow_succ] at h2
            omega
        have hw : IntKind.u64.wrap ((N : Int) + IntKind.u64.wrap ((bn : Int) % 128 * 2 ^ (7 * k))) = ((N + bn % 128 * 128 ^ k : Nat) : Int) := by
          have e1 : (bn : Int) % 128 * 2 ^ (7 * k) = ((bn % 128 * 128 ^ k : Nat) : Int) := by
            rw [← pow7]; simp
          rw [e1]
          generalize bn % 128 * 128 ^ k = M at *
          simp only [IntKind.wrap, IntKind.bits, IntKind.signed]
          simp
          omega
        by_cases hs7 : bn < 128
        · rw [if_pos hs7] at hnx
          have hs7' : (bn : Int) < 128 := by omega
          have hm : bn % 128 = bn := by omega
          rw [hm] at hw hlt64
          generalize N + bn * 128 ^ k = M at *
          have HX := hid hnx
          have hex := str_extract l (k + 1) l.length (Nat.le_refl _)
          rw [List.take_length] at hex
          clear hnx hr hm
          by_cases c9 : k = 9
          · have c9a : ((k : Int) == 9) = true := by simp; omega
            have c9b : ¬ (1 : Int) < bn := by omega
            have c9c : (0 : Int) < (k : Int) := by omega
            have C9 := hid c9
            clear c9 h9
            cases bad
            all_goals
              go_wp2
              all_goals go_ret
              all_goals refine numEnd_some HX.out ?_ ?_
              all_goals first
                | exact (hT q _ _ _ rfl).2
                | exact (hT q _ _ _ rfl).1.to (by have := C9.out; rw [Bool.eq_iff_iff]; simp; try omega)
          · have c9a : ((k : Int) == 9) = false := by simp; omega
            have C9 := hid c9
            clear c9 h9
            cases bad
            all_goals
              go_wp2
              all_goals go_ret
              all_goals refine numEnd_some HX.out ?_ ?_
              all_goals first
                | exact (hT q _ _ _ rfl).2
                | exact (hT q _ _ _ rfl).1.to (by have := C9.out; rw [Bool.eq_iff_iff]; simp; try omega)
        · rw [if_neg hs7] at hnx
          have hs7' : ¬ (bn : Int) < 128 := by omega
          have hk9 : ((k : Int) == 9) = false := by simp; omega
          have hsm : N + bn % 128 * 128 ^ k < 128 ^ (k + 1) := by
            have h1 : bn % 128 * 128 ^ k ≤ 127 * 128 ^ k := Nat.mul_le_mul_right _ (by omega)
            rw [Nat.pow_succ]
            omega
          generalize N + bn % 128 * 128 ^ k = M at *
          have HH := hid (And.intro hsm hnx.symm)
          clear hsm hnx hT hr
          go_wp2
          go_roundw
          case rel => exact ⟨k + 1, M, by omega, by omega, HH.out.1, by go_num, rfl, HH.out.2, q, rfl⟩
          case measure => simp [intOf]; omega
    · have hnx : Fr.rdRaw l = none := by
        rw [← hr.out.1]
        by_cases c : k = 10
        · subst c; rfl
        · rw [List.drop_eq_nil_of_le (by omega), show 10 - k = (10 - k - 1) + 1 by omega]
          rfl
      have HX := hid hnx
      have hT := HR.out.turned
      clear hnx hr
      by_cases c : k = 10
      · have c' : ¬ (k : Int) < 10 := by omega
        go_wp2
        go_ret
        exact numEnd_none HX.out (hT _ _ _ [] rfl).2 (hT _ _ _ [] rfl).1
      · have c' : (k : Int) < 10 := by omega
        have c'' : ¬ (k : Int) < l.length := by omega
        go_wp2
        go_ret
        exact numEnd_none HX.out (hT _ _ _ [] rfl).2 (hT _ _ _ [] rfl).1


end Go.Proofs.Ytfldcmdhneegmaa
