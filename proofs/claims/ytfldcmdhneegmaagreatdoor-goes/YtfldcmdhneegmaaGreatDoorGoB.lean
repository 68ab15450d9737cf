import Derived.Test.YtfldcmdhneegmaaGreatDoorSmM

/-
  package spotterkeep's same.
-/
namespace Go.Proofs.YtfldcmdhneegmaaGreatDoor
open Go.RowKit Go.Lib

set_option maxHeartbeats 4000000 in
set_option maxRecDepth 1000000 in
theorem kSame_same (va vb : Value) (L M : List MV) (w : World) (ha : MRd w va L) (hb : MRd w vb M) (he : L.map Prod.fst = M.map Prod.fst) (hn : L.length ≤ 2000000000) (ho : ∀ y ∈ L, y.1.1.length ≤ 1000000) :
    Calls Tryz.prog 28 #[va, vb] w fun e w' => e = .returned (.bool true) ∧ Below w.heap.size w w' := by
  obtain ⟨aa, ca, rfl, -, -⟩ := RowAt.slice ha.row
  obtain ⟨ab, cb, rfl, -, -⟩ := RowAt.slice hb.row
  have hlen : M.length = L.length := by have := congrArg List.length he; simpa using this.symm
  have hlen' : ((L.length : Int) != (M.length : Int)) = false := by simp [hlen]
  have HL := hid hlen
  have H := hid (And.intro ha (And.intro hb (And.intro he ho)))
  clear ha hb he hlen ho
  go_enter Tryz.func28, Tryz.ntmps28
  go_wp2
  go_loopw [5] (fun s5 wr => ∃ i : Nat, i ≤ L.length ∧ s5 = .int .i64 i ∧ Hid (Below w.heap.size w wr)) (fun s5 _ => L.length - (intOf s5).toNat)
  case atStart => exact ⟨0, by omega, rfl, Below.refl _ _⟩
  case round =>
    obtain ⟨i, hi, rfl, hr⟩ := hrel
    by_cases hlt : i < L.length
    · have hi' : (i : Int) < (L.length : Int) := by omega
      have hi2 : (i : Int) < (M.length : Int) := by have := HL.out; omega
      have hiM : i < M.length := by have := HL.out; omega
      obtain ⟨b1, o1, rfl, lb1, c0, c1⟩ := (H.out.1.below hr.out).get hlt
      obtain ⟨b2, o2, rfl, lb2, d0, d1⟩ := (H.out.2.1.below hr.out).get hiM
      have hA := (H.out.1.below hr.out).offs _ (List.getElem_mem hlt)
      have hBo := (H.out.2.1.below hr.out).offs _ (List.getElem_mem hiM)
      have hol := H.out.2.2.2 _ (List.getElem_mem hlt)
      have hq : L[i].1 = M[i].1 := by
        have h1 : (L.map Prod.fst)[i]? = (M.map Prod.fst)[i]? := by rw [H.out.2.2.1]
        simpa [List.getElem?_eq_getElem hlt, List.getElem?_eq_getElem hiM] using h1
      obtain ⟨x, hx⟩ : ∃ x, L[i] = x := ⟨_, rfl⟩
      obtain ⟨y, hy⟩ : ∃ y, M[i] = y := ⟨_, rfl⟩
      rw [hx] at c0 c1 hA hq hol
      rw [hy] at d0 d1 hBo hq
      rw [← hq] at d1 hBo
      obtain ⟨a3, c3, hv3, -, -⟩ := RowAt.slice hA
      obtain ⟨a4, c4, hv4, -, -⟩ := RowAt.slice hBo
      rw [hv3] at c0 hA
      rw [hv4] at d0 hBo
      obtain ⟨⟨xs, t⟩, vx⟩ := x
      simp only at c0 c1 d0 d1 hA hBo hol
      have HI := hid (And.intro hA hBo)
      clear hA hBo hx hy hv3 hv4 hq
      have ht : (t != t) = false := by simp
      have hxl : ((xs.length : Int) != (xs.length : Int)) = false := by simp
      go_wp2
      go_quiet (fail)
      revert nq; intro n1
      go_wp2
      go_loopw [6] (fun s6 wq => ∃ k : Nat, k ≤ xs.length ∧ s6 = .int .i64 k ∧ Hid (Below wr.heap.size wr wq)) (fun s6 _ => xs.length - (intOf s6).toNat)
      case atStart => exact ⟨0, by omega, rfl, bel_drewN (Below.refl _ _) _⟩
      case round =>
        obtain ⟨k, hk, rfl, hrk⟩ := hrel
        have z0 := (cell_bel hrk.out ⟨b1, o1 + i * 2, none⟩ lb1).trans c0
        have z1 := (cell_bel hrk.out ⟨b2, o2 + i * 2, none⟩ lb2).trans d0
        by_cases hkl : k < xs.length
        · have hk' : (k : Int) < (xs.length : Int) := by omega
          obtain ⟨b3, o3, rfl, e3⟩ := (HI.out.1.below hrk.out).get hkl
          obtain ⟨b4, o4, rfl, e4⟩ := (HI.out.2.below hrk.out).get hkl
          have hxx : (xs[k] != xs[k]) = false := by simp
          go_wp2
          go_quiet (fail)
          revert nq; intro n2
          go_wp2
          go_roundw
          case rel => exact ⟨k + 1, by omega, by go_num, bel_drewN hrk.out _⟩
          case measure => simp [intOf]; omega
        · have hk' : decide ((k : Int) < (xs.length : Int)) = false := decide_eq_false (by omega)
          go_wp2
          exact ⟨⟨i + 1, by omega, by go_num, hr.out.trans (hrk.out.mono hr.out.size)⟩, by simp [intOf]; omega⟩
    · have hi' : decide ((i : Int) < (L.length : Int)) = false := decide_eq_false (by omega)
      go_wp2
      go_ret
      exact ⟨rfl, hr.out⟩

end Go.Proofs.YtfldcmdhneegmaaGreatDoor
