import Derived.Test.YtfldcmdhneegmabGreatDoorFrK
import Derived.Test.YtfldcmdhneegmabGreatDoorZ36
import Derived.Test.YtfldcmdhneegmabGreatDoorVals

/-
  A run is saved.
-/
namespace Go.Proofs.YtfldcmdhneegmabGreatDoor
open Go.RowKit Go.Lib

theorem WrAt.bel {base b : Nat} {w w' : World} {l : List UInt8} (h : WrAt base w b l) (hb : Below w.heap.size w w') : WrAt base w' b l := by
  obtain ⟨v, h1, h2, h3⟩ := h
  exact ⟨v, (hb.block b (lt_of_block h1)).trans h1, own_below h2 hb, h3⟩
theorem WKept.alloc {w w' : World} (h : WKept w w') (o : Obj) : WKept w (w'.alloc o) := h.trans (WKept.below ((Below.refl _ w').alloc (Nat.le_refl _) o))
theorem own_fr {w w' : World} {base : Nat} {e : TypeId} {size : Nat} {v : Value} {n : Nat} {xs : List Value} (h : w.ownsRow base e size v n xs) (hb : ∀ g, v.ownBlock = some g → w'.heap[g]? = w.heap[g]?) : w'.ownsRow base e size v n xs := by
  refine ⟨h.1, ?_⟩
  rcases h.2 with h2 | ⟨g, cap, cur, hv, hg, hh, r⟩
  · exact Or.inl h2
  · exact Or.inr ⟨g, cap, cur, hv, hg, (hb g (by rw [hv]; rfl)).trans hh, r⟩
theorem three_k {w : World} {N : Nat} {x y z : Value} {t : TypeId} (h : w.heap[N]? = some (.cells #[x, y, z] t (0, 0))) : w.cell? ⟨N, 0, none⟩ = some x ∧ w.cell? ⟨N, 1, none⟩ = some y ∧ w.cell? ⟨N, 2, none⟩ = some z := by
  simp [World.cell?, h]
theorem WKept.own {w w' : World} {base size n : Nat} {e : TypeId} {v : Value} {xs : List Value} (h : WKept w w') (ho : w.ownsRow base e size v n xs) (h1 : e ≠ 5) (h2 : e ≠ 150) : w'.ownsRow base e size v n xs := own_fr ho (fun g hg => by
  obtain ⟨-, c, fz, hh⟩ := own_block ho g hg
  rw [h.2 g c e fz hh h1 h2, hh])

set_option maxHeartbeats 2000000 in
set_option maxRecDepth 1000000 in
theorem rSaveE_any (base b : Nat) (l : List UInt8) (r : En.Rn) (vo : Value) (w : World) (h : WrAt base w b l) (hv : IntsAt (fun k => k < base) w vo r.offs) (ho : ∀ o ∈ r.offs, 0 ≤ o ∧ o < 9223372036854775808) (hs : r.step < 1000) (h1 : -9223372036854775808 ≤ r.first) (h2 : r.first < 9223372036854775808) (hl : (l ++ En.runB r).length ≤ 100000000) (hbw : base ≤ w.heap.size) :
    Calls Tryz.prog 33 #[.agg #[.int .i64 r.step, vo, .int .i64 r.first], .pointer (some ⟨b, 0, none⟩)] w fun e w' => e = .returned (.tuple #[]) ∧ WrAt base w' b (l ++ En.runB r) ∧ Below base w w' ∧ WKept w w' := by
  obtain ⟨step, offs, first⟩ := r
  simp only at hv ho hs h1 h2
  obtain ⟨ao, cap, rfl, -, -⟩ := RowAt.slice hv
  have hal := (Below.refl w.heap.size w).alloc (Nat.le_refl _) (.cells #[.int .i64 (step : Int), .slice ao offs.length cap, .int .i64 first] 86)
  have hnew : (w.alloc (.cells #[.int .i64 (step : Int), .slice ao offs.length cap, .int .i64 first] 86)).heap[w.heap.size]? = some (.cells #[.int .i64 (step : Int), .slice ao offs.length cap, .int .i64 first] 86 (0, 0)) := heap_alloc_new w _
  generalize hW1 : w.alloc (.cells #[.int .i64 (step : Int), .slice ao offs.length cap, .int .i64 first] 86) = W1 at hal hnew
  have hkl : ∀ k, (l ++ (Fr.num step ++ (Fr.num offs.length ++ En.offsB (offs.take k)))).length ≤ 100000000 := fun k => by
    have h3 := En.flat_take_le (fun o : Int => Fr.num o.toNat) offs k
    simp only [En.runB, En.offsB, List.length_append] at hl ⊢
    omega
  have hn := hv.maxLen
  have hol : offs.length ≤ 100000000 := by
    have h4 : offs.length ≤ (En.offsB offs).length := by
      unfold En.offsB
      clear hv ho hl hkl hn hal hnew hW1
      induction offs with
      | nil => simp
      | cons x t ih =>
        have := Fr.num_pos x.toNat
        simp only [List.flatMap_cons, List.length_append, List.length_cons]
        omega
    have h5 := hkl offs.length
    simp only [List.take_length, List.length_append] at h5
    omega
  have hb1 : Below base w W1 := hal.mono hbw
  have HW := hid (And.intro (h.bel hal) (And.intro hb1 (And.intro hnew (And.intro hv (And.intro ho (And.intro hkl (WKept.below hal)))))))
  obtain ⟨x0, x1, x2⟩ := three_k hnew
  have hsz := hal.size
  clear h hv ho hl hkl hal hnew hn
  go_enter Tryz.func33, Tryz.ntmps33
  go_wp2_with (go_at_call 31; fail)
  refine (wCount_k base b l step W1 HW.out.1 (by omega) (by have := HW.out.2.2.2.2.2.1 0; simp only [List.length_append] at this; omega) (by omega)).mono ?_
  rintro e w1 ⟨rfl, g1, g2, g3⟩
  obtain ⟨-, y1, y2⟩ := three_k (g3.2 _ _ _ _ HW.out.2.2.1 (by decide) (by decide))
  have H1 := hid (And.intro g1 (And.intro (HW.out.2.1.trans g2) g3))
  have hs1 := g3.1
  clear g1 g2 g3 x0 x1 x2
  go_wp2_with (go_at_call 31; fail)
  refine (wCount_k base b (l ++ Fr.num step) offs.length w1 H1.out.1 (by omega) (by have := HW.out.2.2.2.2.2.1 0; simp only [List.length_append] at this ⊢; omega) (by omega)).mono ?_
  rintro e w2 ⟨rfl, g1, g2, g3⟩
  have k2 := H1.out.2.2.trans g3
  obtain ⟨-, z1, z2⟩ := three_k (k2.2 _ _ _ _ HW.out.2.2.1 (by decide) (by decide))
  have H2 := hid (And.intro g1 (And.intro (H1.out.2.1.trans g2) k2))
  have hs2 := k2.1
  clear g1 g2 g3 k2 y1 y2
  go_wp2
  go_loopw [18] (fun s18 wr => ∃ k : Nat, k ≤ offs.length ∧ s18 = .int .i64 k ∧ Hid (WrAt base wr b (l ++ (Fr.num step ++ (Fr.num offs.length ++ En.offsB (offs.take k)))) ∧ Below base w wr ∧ WKept W1 wr)) (fun s18 _ => offs.length - (intOf s18).toNat)
  case atStart => exact ⟨0, by omega, rfl, by simpa [En.offsB] using H2.out.1, H2.out.2.1, H2.out.2.2⟩
  case round =>
    obtain ⟨k, hk, rfl, hr⟩ := hrel
    have hsr := hr.out.2.2.1
    by_cases hlt : k < offs.length
    · have hk' : (k : Int) < (offs.length : Int) := by omega
      obtain ⟨b3, o3, rfl, e3⟩ := IntsAt.get (RowAt.frame HW.out.2.2.2.1 hr.out.2.1.size (fun g _ hg => hr.out.2.1.block g hg)) hlt
      obtain ⟨o', ho'⟩ : ∃ o' : Nat, offs[k] = (o' : Int) := ⟨offs[k].toNat, by have := (HW.out.2.2.2.2.1 _ (List.getElem_mem hlt)).1; omega⟩
      have hob := (HW.out.2.2.2.2.1 _ (List.getElem_mem hlt)).2
      rw [ho'] at e3 hob
      have HO := hid ho'
      clear ho'
      go_wp2_with (go_at_call 31; fail)
      refine (wCount_k base b _ o' wr hr.out.1 (by omega) (HW.out.2.2.2.2.2.1 k) (by omega)).mono ?_
      rintro e w3 ⟨rfl, g1, g2, g3⟩
      have H3 := hid (And.intro g1 (And.intro (hr.out.2.1.trans g2) (hr.out.2.2.trans g3)))
      clear g1 g2 g3
      go_wp2
      go_roundw
      case rel =>
        refine ⟨k + 1, by omega, by go_num, ?_, H3.out.2.1, H3.out.2.2⟩
        have e4 : En.offsB (offs.take (k + 1)) = En.offsB (offs.take k) ++ Fr.num o' := by
          unfold En.offsB
          rw [En.flat_take _ _ _ hlt, HO.out]
          simp
        rw [e4]
        have := H3.out.1
        simpa using this
      case measure => simp [intOf]; omega
    · obtain rfl : k = offs.length := by omega
      have hk' : decide ((offs.length : Int) < (offs.length : Int)) = false := decide_eq_false (by omega)
      obtain ⟨-, -, t2⟩ := three_k (hr.out.2.2.2 _ _ _ _ HW.out.2.2.1 (by decide) (by decide))
      go_wp2_with (go_at_call 30; fail)
      refine (wMoment_k base b _ first wr hr.out.1 h1 h2 (HW.out.2.2.2.2.2.1 _) (by omega)).mono ?_
      rintro e w3 ⟨rfl, g1, g2, g3⟩
      have H3 := hid (And.intro g1 (And.intro (hr.out.2.1.trans g2) (HW.out.2.2.2.2.2.2.trans (hr.out.2.2.trans g3))))
      clear g1 g2 g3
      go_wp2
      go_end0
      refine ⟨rfl, ?_, H3.out.2.1, H3.out.2.2⟩
      have := H3.out.1
      rw [List.take_length] at this
      simpa [En.runB] using this

end Go.Proofs.YtfldcmdhneegmabGreatDoor
