import Derived.Test.YtfldcmdhneegmaaGreatDoorZ02
import Derived.ProofKit
import Derived.OpenShut
import Derived.Deep.Slices
import Derived.Test.YtfldcmdhneegmaaGreatDoorZ14
import Derived.Test.YtfldcmdhneegmaaGreatDoorZ17
import Derived.Test.YtfldcmdhneegmaaGreatDoorZ18
import Derived.Deep.RegionHeld3
import Derived.Deep.QuietTactic
import Derived.Test.YtfldcmdhneegmaaGreatDoorZ75
import Derived.Test.YtfldcmdhneegmaaGreatDoorZ70

/-
  Events that were handed in, as the row reads them.
-/
namespace Go.Proofs.YtfldcmdhneegmaaGreatDoor
open Go.ChangeShapes Go.WideShapes Go.RowKit Go.Lib Go.Deep

theorem list_three {α : Type} {l : List α} (h : l.length = 3) : ∃ a b c, l = [a, b, c] := by
  match l, h with
  | [a, b, c], _ => exact ⟨a, b, c, rfl⟩
theorem Tryz.cellsEv : Tryz.prog.cellsOf 57 = 3 := by kernel_rfl
theorem Tryz.cellsEr : Tryz.prog.cellsOf 21 = 1 := by kernel_rfl
theorem Tryz.cellsEl : Tryz.prog.cellsOf 2 = 1 := by kernel_rfl
/-- Cells that read as an event. -/
theorem ev_cells {H : Type} {enc : TypeId × Value → H} {W : World} {n : Nat} {cs : List Value} {x : DataW H × List MemPlace} (h : DataW.trod enc Tryz.prog W 0 (fun _ => true) true n 57 cs = some x) :
    ∃ y : KV, cs = [.int .i32 y.1, .int .i64 y.2.1, .int .i64 y.2.2] := by
  obtain ⟨xs, k, -, -, hl, hxl, hf⟩ := DataW.trod_struct Tryz.underlying57 h
  rw [Tryz.cellsEv] at hl
  obtain ⟨v0, v1, v2, rfl⟩ := list_three hl
  obtain ⟨y0, y1, y2, rfl⟩ := list_three (l := xs) (by rw [hxl]; rfl)
  have g0 : DataW.trod enc Tryz.prog W 0 (fun _ => true) true k 21 [v0] = some y0 := by
    have := hf 0 _ rfl
    simpa [Tryz.cellsEr] using this
  have g1 : DataW.trod enc Tryz.prog W 0 (fun _ => true) true k 2 [v1] = some y1 := by
    have := hf 1 _ rfl
    simpa [Tryz.cellsEl, Tryz.cellsEr] using this
  have g2 : DataW.trod enc Tryz.prog W 0 (fun _ => true) true k 2 [v2] = some y2 := by
    have := hf 2 _ rfl
    simpa [Tryz.cellsEl, Tryz.cellsEr] using this
  obtain ⟨n0, e0, -, -⟩ := DataW.trod_int Tryz.underlying21 g0
  obtain ⟨n1, e1, -, -⟩ := DataW.trod_int Tryz.underlying2 g1
  obtain ⟨n2, e2, -, -⟩ := DataW.trod_int Tryz.underlying2 g2
  simp only [List.cons.injEq, and_true] at e0 e1 e2
  subst e0 e1 e2
  exact ⟨(n0, n1, n2), rfl⟩
theorem evs_in {H : Type} {enc : TypeId × Value → H} {W : World} {a0 : Option Addr} {len cap : Nat} {d : DataW H} {ps : List MemPlace} (h : DataW.Trod enc Tryz.prog W 0 (fun _ => true) true 53 (.slice a0 len cap) d ps) :
    ∃ l : List KV, l.length = len ∧ EvsIn W (.slice a0 len cap) l ∧ len ≤ cap ∧ len ≤ 9223372036854775807 := by
  obtain ⟨fuel, hf⟩ := h
  rcases open_slice Tryz.underlying53 hf with ⟨hcs, hx⟩ | ⟨a, len', cap', m, n, D, Pl, hcs, -, hl, hm, hmm, hx, hall⟩
  · simp [Value.cells] at hcs
    obtain ⟨rfl, rfl, rfl⟩ := hcs
    exact ⟨[], rfl, ⟨⟨_, _, rfl⟩, fun i hi => by simp at hi⟩, by omega, by omega⟩
  · simp [Value.cells] at hcs
    obtain ⟨rfl, rfl, rfl⟩ := hcs
    simp only [if_true] at hmm
    subst hmm
    rw [Tryz.cellsEv] at hall
    have each : ∀ i, i < len → ∃ y : KV, W.cell? (a.add (i * 3)) = some (.int .i32 y.1) ∧ W.cell? (a.add (i * 3 + 1)) = some (.int .i64 y.2.1) ∧ W.cell? (a.add (i * 3 + 2)) = some (.int .i64 y.2.2) := fun i hi => by
      obtain ⟨cs', k1, k2⟩ := hall i (by omega)
      obtain ⟨y, rfl⟩ := ev_cells k2
      obtain ⟨-, -, hc⟩ := World.cells?_some k1
      have e0 := hc 0 (by omega)
      have e1 := hc 1 (by omega)
      have e2 := hc 2 (by omega)
      rw [add_add] at e0 e1 e2
      exact ⟨y, by simpa using e0, by simpa using e1, by simpa using e2⟩
    obtain ⟨f, hf⟩ := choose_lt each
    refine ⟨(List.range len).map f, by simp, ⟨⟨some a, m, by simp⟩, fun i hi => ?_⟩, ?_, ?_⟩
    · have hi' : i < len := by simpa using hi
      obtain ⟨c0, c1, c2⟩ := hf i hi'
      obtain ⟨b, off, spot⟩ := a
      have hspot : spot = none := by
        have := World.cell?_spot (hf 0 (by omega)).1
        simpa [Addr.add] using this
      subst hspot
      have hb : b < W.heap.size := World.block_lt_of_cell? W _ (by rw [Go.WideShapes.add_plain] at c0; exact c0)
      rw [Go.WideShapes.add_plain] at c0 c1 c2
      refine ⟨b, off, m, by simp, hb, ?_⟩
      simp only [List.getElem_map, List.getElem_range]
      exact ⟨c0, by rw [← Nat.add_assoc] at c1; exact c1, by rw [← Nat.add_assoc] at c2; exact c2⟩
    · omega
    · unfold maxLen at hm
      omega

end Go.Proofs.YtfldcmdhneegmaaGreatDoor

/-
  Events that were handed in, as the row reads them, with their bounds.
-/
namespace Go.Proofs.YtfldcmdhneegmaaGreatDoor
open Go.ChangeShapes Go.WideShapes Go.RowKit Go.Lib Go.Deep

def Rng64 (n : Int) : Prop := -9223372036854775808 ≤ n ∧ n ≤ 9223372036854775807
theorem rng64_of {n : Int} (ww : (Lit.int .i64 n).wf = true) : Rng64 n := by
  have h := ww
  simp [Lit.wf] at h
  have e0 : IntKind.i64.min = -9223372036854775808 := by rfl
  have e : IntKind.i64.max = 9223372036854775807 := by rfl
  have h' : IntKind.i64.min ≤ n ∧ n ≤ IntKind.i64.max := h
  rw [e0, e] at h'
  exact h'
/-- Cells that read as an event. -/
theorem ev_cellsR {H : Type} {enc : TypeId × Value → H} {W : World} {n : Nat} {cs : List Value} {x : DataW H × List MemPlace} (h : DataW.trod enc Tryz.prog W 0 (fun _ => true) true n 57 cs = some x) :
    ∃ y : KV, cs = [.int .i32 y.1, .int .i64 y.2.1, .int .i64 y.2.2] ∧ Rng64 y.2.1 ∧ Rng64 y.2.2 := by
  obtain ⟨xs, k, -, -, hl, hxl, hf⟩ := DataW.trod_struct Tryz.underlying57 h
  rw [Tryz.cellsEv] at hl
  obtain ⟨v0, v1, v2, rfl⟩ := list_three hl
  obtain ⟨y0, y1, y2, rfl⟩ := list_three (l := xs) (by rw [hxl]; rfl)
  have g0 : DataW.trod enc Tryz.prog W 0 (fun _ => true) true k 21 [v0] = some y0 := by
    have := hf 0 _ rfl
    simpa [Tryz.cellsEr] using this
  have g1 : DataW.trod enc Tryz.prog W 0 (fun _ => true) true k 2 [v1] = some y1 := by
    have := hf 1 _ rfl
    simpa [Tryz.cellsEl, Tryz.cellsEr] using this
  have g2 : DataW.trod enc Tryz.prog W 0 (fun _ => true) true k 2 [v2] = some y2 := by
    have := hf 2 _ rfl
    simpa [Tryz.cellsEl, Tryz.cellsEr] using this
  obtain ⟨n0, e0, -, -⟩ := DataW.trod_int Tryz.underlying21 g0
  obtain ⟨n1, e1, -, r1⟩ := DataW.trod_int Tryz.underlying2 g1
  obtain ⟨n2, e2, -, r2⟩ := DataW.trod_int Tryz.underlying2 g2
  simp only [List.cons.injEq, and_true] at e0 e1 e2
  subst e0 e1 e2
  exact ⟨(n0, n1, n2), rfl, rng64_of r1, rng64_of r2⟩
theorem evs_inR {H : Type} {enc : TypeId × Value → H} {W : World} {a0 : Option Addr} {len cap : Nat} {d : DataW H} {ps : List MemPlace} (h : DataW.Trod enc Tryz.prog W 0 (fun _ => true) true 53 (.slice a0 len cap) d ps) :
    ∃ l : List KV, l.length = len ∧ EvsIn W (.slice a0 len cap) l ∧ len ≤ cap ∧ len ≤ 9223372036854775807 ∧ ∀ i (hi : i < l.length), Rng64 l[i].2.1 ∧ Rng64 l[i].2.2 := by
  obtain ⟨fuel, hf⟩ := h
  rcases open_slice Tryz.underlying53 hf with ⟨hcs, hx⟩ | ⟨a, len', cap', m, n, D, Pl, hcs, -, hl, hm, hmm, hx, hall⟩
  · simp [Value.cells] at hcs
    obtain ⟨rfl, rfl, rfl⟩ := hcs
    exact ⟨[], rfl, ⟨⟨_, _, rfl⟩, fun i hi => by simp at hi⟩, by omega, by omega, fun i hi => by simp at hi⟩
  · simp [Value.cells] at hcs
    obtain ⟨rfl, rfl, rfl⟩ := hcs
    simp only [if_true] at hmm
    subst hmm
    rw [Tryz.cellsEv] at hall
    have each : ∀ i, i < len → ∃ y : KV, W.cell? (a.add (i * 3)) = some (.int .i32 y.1) ∧ W.cell? (a.add (i * 3 + 1)) = some (.int .i64 y.2.1) ∧ W.cell? (a.add (i * 3 + 2)) = some (.int .i64 y.2.2) ∧ Rng64 y.2.1 ∧ Rng64 y.2.2 := fun i hi => by
      obtain ⟨cs', k1, k2⟩ := hall i (by omega)
      obtain ⟨y, rfl, q1, q2⟩ := ev_cellsR k2
      obtain ⟨-, -, hc⟩ := World.cells?_some k1
      have e0 := hc 0 (by omega)
      have e1 := hc 1 (by omega)
      have e2 := hc 2 (by omega)
      rw [add_add] at e0 e1 e2
      exact ⟨y, by simpa using e0, by simpa using e1, by simpa using e2, q1, q2⟩
    obtain ⟨f, hf⟩ := choose_lt each
    refine ⟨(List.range len).map f, by simp, ⟨⟨some a, m, by simp⟩, fun i hi => ?_⟩, ?_, ?_, fun i hi => ?_⟩
    · have hi' : i < len := by simpa using hi
      obtain ⟨c0, c1, c2, -, -⟩ := hf i hi'
      obtain ⟨b, off, spot⟩ := a
      have hspot : spot = none := by
        have := World.cell?_spot (hf 0 (by omega)).1
        simpa [Addr.add] using this
      subst hspot
      have hb : b < W.heap.size := World.block_lt_of_cell? W _ (by rw [Go.WideShapes.add_plain] at c0; exact c0)
      rw [Go.WideShapes.add_plain] at c0 c1 c2
      refine ⟨b, off, m, by simp, hb, ?_⟩
      simp only [List.getElem_map, List.getElem_range]
      exact ⟨c0, by rw [← Nat.add_assoc] at c1; exact c1, by rw [← Nat.add_assoc] at c2; exact c2⟩
    · omega
    · unfold maxLen at hm
      omega
    · have hi' : i < len := by simpa using hi
      simp only [List.getElem_map, List.getElem_range]
      exact (hf i hi').2.2.2

end Go.Proofs.YtfldcmdhneegmaaGreatDoor

/-
  Rows of matches: read, and of the call's own.
-/
namespace Go.Proofs.YtfldcmdhneegmaaGreatDoor
open Go.RowKit Go.Lib

/-- Matches that are read. -/
structure MRd (w : World) (v : Value) (L : List MV) : Prop where
  row : RowAt (fun _ => True) w v 2 L.length (mCells L)
  offs : ∀ x ∈ L, IntsAt (fun _ => True) w x.2 x.1.1
theorem MOwn.rd {base : Nat} {w : World} {v : Value} {L : List MV} (h : MOwn base w v L) : MRd w v L :=
  ⟨(RowAt.ofOwn h.row).mono (fun _ _ _ => trivial), fun x hx => RowAt.mono (RowAt.ofOwn (h.offs x hx).1) (fun _ _ _ => trivial)⟩
theorem MRd.below {w w' : World} {v : Value} {L : List MV} (h : MRd w v L) (hb : Below w.heap.size w w') : MRd w' v L := ⟨RowAt.below h.row hb, fun x hx => (h.offs x hx).below hb⟩
theorem MRd.get {w : World} {ao : Option Addr} {n cap : Nat} {L : List MV} (h : MRd w (.slice ao n cap) L) {i : Nat} (hi : i < L.length) :
    ∃ b o, ao = some ⟨b, o, none⟩ ∧ b < w.heap.size ∧ w.cell? ⟨b, o + i * 2, none⟩ = some L[i].2 ∧ w.cell? ⟨b, o + i * 2 + 1, none⟩ = some (.int .i64 L[i].1.2) := by
  rcases h.row.2 with ⟨_, h0⟩ | ⟨b, o, cap', he, _, hb, _, _, r⟩
  · omega
  · cases he
    obtain ⟨g0, g1⟩ := mCells_get L i hi
    refine ⟨b, o, rfl, hb, by simpa using r _ _ g0, ?_⟩
    have := r _ _ g1
    rwa [← Nat.add_assoc] at this

/-- Rows of matches. -/
structure MBk (base : Nat) (w : World) (v : Value) (L : List MV) : Prop where
  row : w.ownsRow base 109 2 v L.length (mCells L)
  offs : ∀ x ∈ L, w.ownsRow base 3 1 x.2 x.1.1.length (intCells x.1.1)
theorem MOwn.bk {base : Nat} {w : World} {v : Value} {L : List MV} (h : MOwn base w v L) : MBk base w v L := ⟨h.row, fun x hx => (h.offs x hx).1⟩
section
variable {base base' : Nat} {w w' : World} {v v' vm va : Value} {L M La : List MV}
theorem MBk.nil (base : Nat) (w : World) : MBk base w (.slice none 0 0) [] := ⟨World.ownsRow_nil _ _ _ _, fun _ h => (by cases h)⟩
theorem MBk.rd (h : MBk base w v L) : MRd w v L := ⟨(RowAt.ofOwn h.row).mono (fun _ _ _ => trivial), fun x hx => RowAt.mono (RowAt.ofOwn (h.offs x hx)) (fun _ _ _ => trivial)⟩
theorem MBk.mono (h : MBk base w v L) (hb : base' ≤ base) : MBk base' w v L := ⟨own_mono h.row hb, fun x hx => own_mono (h.offs x hx) hb⟩
theorem MBk.below (h : MBk base w v L) (hb : Below w.heap.size w w') : MBk base w' v L := ⟨own_below h.row hb, fun x hx => own_below (h.offs x hx) hb⟩
theorem MBk.eng {eb : Nat} (h : MBk base w v L) (he : ∃ c fz, w.heap[eb]? = some (.cells c 159 fz)) (gr : w.grownBy w' (some eb)) : MBk base w' v L := by
  obtain ⟨c, fz, he⟩ := he
  exact ⟨own_kept h.row he (by decide) gr, fun x hx => own_kept (h.offs x hx) he (by decide) gr⟩
theorem MBk.app (h : MBk base w v M) (hL : MBk base w vm L) (own : w'.ownsRow base 109 2 v' (M.length + L.length) (mCells M ++ mCells L)) (gr : w.grownBy w' v.ownBlock) : MBk base w' v' (M ++ L) := by
  refine ⟨by rw [List.length_append]; simpa [mCells] using own, fun x hx => ?_⟩
  rcases List.mem_append.1 hx with hx | hx
  · exact (h.offs x hx).kept gr (own_other (h.offs x hx) h.row (by decide))
  · exact (hL.offs x hx).kept gr (own_other (hL.offs x hx) h.row (by decide))
theorem MBk.other (ha : MBk base' w va La) (h : MBk base w v M) (hne : ∀ g, v.ownBlock = some g → va.ownBlock ≠ some g) (gr : w.grownBy w' v.ownBlock) : MBk base' w' va La := by
  refine ⟨ha.row.kept gr ?_, fun x hx => (ha.offs x hx).kept gr (own_other (ha.offs x hx) h.row (by decide))⟩
  cases hv : va.ownBlock with
  | none => exact Or.inl rfl
  | some g => exact Or.inr (fun e => hne g e.symm hv)
theorem MBk.one (h : MBk base w v L) : ∀ u ∈ mCells L, u.oneCell' = true := by
  intro u hu
  obtain ⟨y, hy, hu⟩ := List.mem_flatMap.1 hu
  obtain ⟨a, c, hv⟩ := own_slice (h.offs y hy)
  simp at hu
  rcases hu with rfl | rfl
  · rw [hv]; rfl
  · rfl
end

end Go.Proofs.YtfldcmdhneegmaaGreatDoor

/-
  package spotterkeep's same.
-/
namespace Go.Proofs.YtfldcmdhneegmaaGreatDoor
open Go.RowKit Go.Lib

set_option maxHeartbeats 4000000 in
set_option maxRecDepth 1000000 in
theorem kSame_same (va vb : Value) (L M : List MV) (w : World) (ha : MRd w va L) (hb : MRd w vb M) (he : L.map Prod.fst = M.map Prod.fst) (hn : L.length ≤ 2000000000) (ho : ∀ y ∈ L, y.1.1.length ≤ 1000000) :
    Calls Tryz.prog 28 #[va, vb] w fun e w' => e = .returned (.bool true) ∧ Below w.heap.size w w' := by
  obtain ⟨aa, ca, rfl, -, -⟩ := RowAt.slice ha.row
  obtain ⟨ab, cb, rfl, -, -⟩ := RowAt.slice hb.row
  have hlen : M.length = L.length := by have := congrArg List.length he; simpa using this.symm
  have hlen' : ((L.length : Int) != (M.length : Int)) = false := by simp [hlen]
  have HL := hid hlen
  have H := hid (And.intro ha (And.intro hb (And.intro he ho)))
  clear ha hb he hlen ho
  go_enter Tryz.func28, Tryz.ntmps28
  go_wp2
  go_loopw [5] (fun s5 wr => ∃ i : Nat, i ≤ L.length ∧ s5 = .int .i64 i ∧ Hid (Below w.heap.size w wr)) (fun s5 _ => L.length - (intOf s5).toNat)
  case atStart => exact ⟨0, by omega, rfl, Below.refl _ _⟩
  case round =>
    obtain ⟨i, hi, rfl, hr⟩ := hrel
    by_cases hlt : i < L.length
    · have hi' : (i : Int) < (L.length : Int) := by omega
      have hi2 : (i : Int) < (M.length : Int) := by have := HL.out; omega
      have hiM : i < M.length := by have := HL.out; omega
      obtain ⟨b1, o1, rfl, lb1, c0, c1⟩ := (H.out.1.below hr.out).get hlt
      obtain ⟨b2, o2, rfl, lb2, d0, d1⟩ := (H.out.2.1.below hr.out).get hiM
      have hA := (H.out.1.below hr.out).offs _ (List.getElem_mem hlt)
      have hBo := (H.out.2.1.below hr.out).offs _ (List.getElem_mem hiM)
      have hol := H.out.2.2.2 _ (List.getElem_mem hlt)
      have hq : L[i].1 = M[i].1 := by
        have h1 : (L.map Prod.fst)[i]? = (M.map Prod.fst)[i]? := by rw [H.out.2.2.1]
        simpa [List.getElem?_eq_getElem hlt, List.getElem?_eq_getElem hiM] using h1
      obtain ⟨x, hx⟩ : ∃ x, L[i] = x := ⟨_, rfl⟩
      obtain ⟨y, hy⟩ : ∃ y, M[i] = y := ⟨_, rfl⟩
      rw [hx] at c0 c1 hA hq hol
      rw [hy] at d0 d1 hBo hq
      rw [← hq] at d1 hBo
      obtain ⟨a3, c3, hv3, -, -⟩ := RowAt.slice hA
      obtain ⟨a4, c4, hv4, -, -⟩ := RowAt.slice hBo
      rw [hv3] at c0 hA
      rw [hv4] at d0 hBo
      obtain ⟨⟨xs, t⟩, vx⟩ := x
      simp only at c0 c1 d0 d1 hA hBo hol
      have HI := hid (And.intro hA hBo)
      clear hA hBo hx hy hv3 hv4 hq
      have ht : (t != t) = false := by simp
      have hxl : ((xs.length : Int) != (xs.length : Int)) = false := by simp
      go_wp2
      go_quiet (fail)
      revert nq; intro n1
      go_wp2
      go_loopw [6] (fun s6 wq => ∃ k : Nat, k ≤ xs.length ∧ s6 = .int .i64 k ∧ Hid (Below wr.heap.size wr wq)) (fun s6 _ => xs.length - (intOf s6).toNat)
      case atStart => exact ⟨0, by omega, rfl, bel_drewN (Below.refl _ _) _⟩
      case round =>
        obtain ⟨k, hk, rfl, hrk⟩ := hrel
        have z0 := (cell_bel hrk.out ⟨b1, o1 + i * 2, none⟩ lb1).trans c0
        have z1 := (cell_bel hrk.out ⟨b2, o2 + i * 2, none⟩ lb2).trans d0
        by_cases hkl : k < xs.length
        · have hk' : (k : Int) < (xs.length : Int) := by omega
          obtain ⟨b3, o3, rfl, e3⟩ := (HI.out.1.below hrk.out).get hkl
          obtain ⟨b4, o4, rfl, e4⟩ := (HI.out.2.below hrk.out).get hkl
          have hxx : (xs[k] != xs[k]) = false := by simp
          go_wp2
          go_quiet (fail)
          revert nq; intro n2
          go_wp2
          go_roundw
          case rel => exact ⟨k + 1, by omega, by go_num, bel_drewN hrk.out _⟩
          case measure => simp [intOf]; omega
        · have hk' : decide ((k : Int) < (xs.length : Int)) = false := decide_eq_false (by omega)
          go_wp2
          exact ⟨⟨i + 1, by omega, by go_num, hr.out.trans (hrk.out.mono hr.out.size)⟩, by simp [intOf]; omega⟩
    · have hi' : decide ((i : Int) < (L.length : Int)) = false := decide_eq_false (by omega)
      go_wp2
      go_ret
      exact ⟨rfl, hr.out⟩

end Go.Proofs.YtfldcmdhneegmaaGreatDoor

/-
  The law Lossless: two engines that hold the same; Save and Load of one.
-/
namespace Go.Proofs.YtfldcmdhneegmaaGreatDoor
open Go.RowKit Go.Lib

/-- An engine that was loaded holds what was saved. -/
theorem EngNew.gat {n : Nat} {w1 : World} {eb : Nat} {P : En.Pat} {W Next : Int} {R Q : List En.Ev} {B : List En.Rn} {K : Nat} {T : Int → Int} {vs vq vr : Value} {A : List RV} (h : EngNew n w1 eb ⟨P.steps, P.win, W, Next.toNat, En.sortEv Q, B⟩ vs vq vr A) (hq : Q.Perm R) (hw : En.Pw P W Next R B K T) :
    GAt (fun b => n ≤ b ∧ b ≤ w1.heap.size) (w1.alloc (.cells #[.pointer (some ⟨eb, 0, none⟩)] 74)) w1.heap.size eb P W Next R B K T := by
  have n0 := hw.n0
  have hge := h.ge
  have hlt := lt_of_block h.blk
  have hb : Below w1.heap.size w1 (w1.alloc (.cells #[.pointer (some ⟨eb, 0, none⟩)] 74)) := (Below.refl _ _).alloc (Nat.le_refl _) _
  have hs : (w1.alloc (.cells #[.pointer (some ⟨eb, 0, none⟩)] 74)).heap.size = w1.heap.size + 1 := by simp
  obtain ⟨m, s1, s2, s3⟩ := h.row
  have hmap := h.map
  dsimp only at s1 s2 hmap
  refine ⟨fun b => n ≤ b ∧ b < w1.heap.size, vs, vq, vr, En.sortEv Q, A, ⟨heap_alloc_new w1 _, ⟨?_, ⟨hge, hlt⟩, ?_, own_mono (own_below s2 hb) (Nat.zero_le _), ?_, ?_, ?_, ?_⟩, (En.sortEv_ord Q).heap, (En.sortEv_perm Q).trans hq, by rw [hmap]; exact hw, fun b hb => by omega, fun hb => by omega⟩, hmap, fun b => by omega⟩
  · rw [hb.block eb hlt, h.blk]
    have e1 : ((Next.toNat : Nat) : Int) = Next := by omega
    simp only [e1]
  · exact RowAt.below (RowAt.mono s1 (fun b h1 h2 => ⟨⟨h2.1, h1⟩, h2.2.1⟩)) hb
  · intro g hg
    obtain ⟨h1, c, fz, h2⟩ := own_block s2 g hg
    exact ⟨by omega, lt_of_block h2⟩
  · intro b h1 h2
    have h3 := (own_block s2 b h2).1
    rcases s1.2 with ⟨h4, -⟩ | ⟨b', o, cap, h4, h5, -⟩
    · rw [h4] at h1; cases h1
    · rw [h4] at h1
      cases h1
      dsimp only at h3
      omega
  · have hr := RowAt.ofOwn h.runs
    refine ⟨hr.1, ?_⟩
    rcases hr.2 with h0 | ⟨g, o, cap, hv, h1, h2, h3, h4, h5⟩
    · exact Or.inl h0
    · have hv' : vr.ownBlock = some g := by rw [hv]; rfl
      obtain ⟨h6, c, fz, h7⟩ := own_block h.runs g hv'
      exact Or.inr ⟨g, o, cap, hv, ⟨⟨h6, h2⟩, c, fz, (hb.block g h2).trans h7⟩, by omega, h3, h4, fun j u hj => (cell_bel hb ⟨g, o + j, none⟩ h2).trans (h5 j u hj)⟩
  · intro x hx
    have hr := RowAt.ofOwn (h.offs x hx)
    refine ⟨hr.1, ?_⟩
    rcases hr.2 with h0 | ⟨g, o, cap, hv, h1, h2, h3, h4, h5⟩
    · exact Or.inl h0
    · have hv' : x.2.ownBlock = some g := by rw [hv]; rfl
      obtain ⟨h6, c, fz, h7⟩ := own_block (h.offs x hx) g hv'
      exact Or.inr ⟨g, o, cap, hv, ⟨⟨h6, h2⟩, c, fz, (hb.block g h2).trans h7⟩, by omega, h3, h4, fun j u hj => (cell_bel hb ⟨g, o + j, none⟩ h2).trans (h5 j u hj)⟩

/-- What is asked of a state so that it is read again, of an engine's. -/
theorem ldOk_of {P : En.Pat} {W Next : Int} {Q R : List En.Ev} {B : List En.Rn} {K : Nat} {T : Int → Int} (hf : Pl.Fine P.steps P.win) (hw : En.Pw P W Next R B K T) (hv : En.Pv P Next R B) (hz : En.Pz P W R B) (hq : Q.Perm R) (hn : Next ≤ 100000) (hW : W < 9223372036854775808) : Fr.LdOk P W Next Q B := by
  have b24 := hw.b24
  refine ⟨hf, hw.wlo, hW, hw.n0, by omega, by rw [hq.length_eq]; exact hw.q12, hw.apt.perm hq, fun e he => ?_, b24, hw.ord, fun r hr => ?_⟩
  · have he' := hq.mem_iff.1 he
    obtain ⟨h1, h2, h3⟩ := hv.evs e he'
    obtain ⟨h4, h5, -, -⟩ := hw.evs e he'
    obtain ⟨x, hx, hxe⟩ := En.has_mem h3
    have h6 := (hf.ltr x hx).2
    rw [hxe] at h6
    rcases h6 with h6 | h6 <;> exact ⟨h1, h2, by omega, by omega, h3, h4, by omega⟩
  · obtain ⟨g1, g2⟩ := hw.go r hr
    have hs := hv.runs.short hr
    refine ⟨g1, g2, by omega, fun o ho => ⟨(hv.runs.offs r hr o ho).1, (hv.runs.offs r hr o ho).2, fun e he h => ?_⟩, hz.rz.fits r hr, hz.rz.nodup r hr, (hw.lo r hr).1, (hw.lo r hr).2, hz.lasts r hr⟩
    exact hz.rz.wait r hr o ho (by rw [← h]; exact List.mem_map.2 ⟨e, hq.mem_iff.1 he, rfl⟩)
/-- An engine's bound on how long its runs are. -/
theorem GAt.short {G : Nat → Prop} {w : World} {sb eb : Nat} {P : En.Pat} {W Next : Int} {R : List En.Ev} {B : List En.Rn} {K : Nat} {T : Int → Int} (h : GAt G w sb eb P W Next R B K T) (hv : En.Pv P Next R B) : GAt G w sb eb P W Next R B 24 T := by
  obtain ⟨F, vs, vq, vr, Q, A, h1, rfl, h3⟩ := h
  have hp := h1.pw
  refine ⟨F, vs, vq, vr, Q, A, ⟨h1.sblk, h1.pe, h1.hp, h1.perm, ⟨hp.w0, hp.w1, hp.s0, hp.s4, hp.n0, hp.wlo, hp.q12, hp.evs, hp.apt, hp.ord, hp.det, hp.lo, hp.go, hp.b24, fun r hr => ?_⟩, h1.lt, h1.ns⟩, rfl, h3⟩
  have := hv.runs.short hr
  have := hp.b24
  omega
/-- The frame of a state. -/
def frB (P : En.Pat) (W Next : Int) (R : List En.Ev) (B : List En.Rn) : List UInt8 := Fr.framed (En.stateB (Pl.text P.steps P.win) W Next R B)
theorem stateB_perm {text : List UInt8} {W Next : Int} {Q R : List En.Ev} {B : List En.Rn} (hq : Q.Perm R) (ha : En.Apt R) : En.stateB text W Next Q B = En.stateB text W Next R B := by
  unfold En.stateB
  rw [En.sortEv_congr hq (ha.perm hq), hq.length_eq]
/-- Save. -/
theorem gSave {G : Nat → Prop} {w : World} {sb eb : Nat} {P : En.Pat} {W Next : Int} {R : List En.Ev} {B : List En.Rn} {K : Nat} {T : Int → Int} (h : GAt G w sb eb P W Next R B K T) (hf : Pl.Fine P.steps P.win) (hv : En.Pv P Next R B) (hn : Next ≤ 100000) (hW : W < 9223372036854775808) (hT : Pow10 w) :
    Calls Tryz.prog 13 #[.pointer (some ⟨sb, 0, none⟩)] w fun e w' => ∃ a c, e = .returned (.slice a (frB P W Next R B).length c) ∧ w'.ownsRow w.heap.size 5 1 (.slice a (frB P W Next R B).length c) (frB P W Next R B).length (byteCells (frB P W Next R B)) ∧ Below w.heap.size w w' := by
  obtain ⟨F, vs, vq, vr, Q, A, h1, rfl, h3⟩ := h
  obtain ⟨hok, hlen⟩ := svOk_of hf h1.pw hv h1.hp h1.perm hn hW
  have e1 := stateB_perm (text := Pl.text P.steps P.win) (W := W) (Next := Next) (B := A.map Prod.fst) h1.perm h1.pw.apt
  refine (sSave_any F sb eb P W Next vs vq vr Q A w h1.sblk h1.pe hok hT).mono ?_
  rintro e w' ⟨v, rfl, ho, hb⟩
  rw [e1] at ho
  obtain ⟨a, c, rfl⟩ := own_slice ho
  exact ⟨a, c, rfl, ho, hb⟩
theorem frB_len {P : En.Pat} {W Next : Int} {R : List En.Ev} {B : List En.Rn} {K : Nat} {T : Int → Int} (hf : Pl.Fine P.steps P.win) (hw : En.Pw P W Next R B K T) (hv : En.Pv P Next R B) (hn : Next ≤ 100000) (hW : W < 9223372036854775808) : 10 ≤ (frB P W Next R B).length ∧ (frB P W Next R B).length ≤ 8010 := by
  have hlen := (svOk_of hf hw hv (Q := En.sortEv R) (En.sortEv_ord R).heap (En.sortEv_perm R) hn hW).2
  rw [stateB_perm (En.sortEv_perm R) hw.apt] at hlen
  have t1 := Fr.num_pos (Pl.text P.steps P.win).length
  have t2 := Fr.num_pos (Fr.zig W)
  have t3 := Fr.num_pos Next.toNat
  have t4 := Fr.num_pos R.length
  have t5 := Fr.num_pos B.length
  unfold frB Fr.framed
  rw [List.length_append, Fr.sum_length]
  refine ⟨?_, by omega⟩
  simp only [En.stateB, En.headB, Fr.mom, List.length_append, List.length_cons]
  omega
theorem frB_sound {P : En.Pat} {W Next : Int} {R : List En.Ev} {B : List En.Rn} : ∃ c, Fr.sound (frB P W Next R B) 83 = some c := by
  have hst : ∃ r, En.stateB (Pl.text P.steps P.win) W Next R B = 83 :: r := ⟨_, by unfold En.stateB En.headB; rw [List.cons_append, List.cons_append]⟩
  obtain ⟨r, hr⟩ := hst
  exact ⟨_, by unfold frB; rw [hr]; exact Fr.sound_framed _ _⟩
theorem frB_take {P : En.Pat} {W Next : Int} {R : List En.Ev} {B : List En.Rn} : (frB P W Next R B).take ((frB P W Next R B).length - 4) = En.stateB (Pl.text P.steps P.win) W Next R B := by
  unfold frB Fr.framed
  rw [List.length_append, Fr.sum_length, Nat.add_sub_cancel, List.take_left' rfl]

/-- Load of what was saved. -/
theorem gLoad {P : En.Pat} {W Next : Int} {R : List En.Ev} {B : List En.Rn} {K : Nat} {T : Int → Int} (hf : Pl.Fine P.steps P.win) (hw : En.Pw P W Next R B K T) (hv : En.Pv P Next R B) (hz : En.Pz P W R B) (hn : Next ≤ 100000) (hW : W < 9223372036854775808) (v : Value) (w : World) (hb : BytesAt (fun g => g < w.heap.size) w v (frB P W Next R B)) (hL : Letters w) (hT : Pow10 w) :
    Calls Tryz.prog 11 #[v] w fun e w' => ∃ sb eb G, e = .returned (.tuple #[.pointer (some ⟨sb, 0, none⟩), .int .i64 0]) ∧ GAt G w' sb eb P W Next R B K T ∧ (∀ b, G b → w.heap.size ≤ b) ∧ Below w.heap.size w w' := by
  obtain ⟨c, hs⟩ := frB_sound (P := P) (W := W) (Next := Next) (R := R) (B := B)
  have hl := frB_len hf hw hv hn hW
  have hrd := Fr.rdState_back (ldOk_of hf hw hv hz (List.Perm.refl R) hn hW)
  rw [← frB_take] at hrd
  refine (sLoad_ok v _ c _ w hb (by omega) hs (by omega) hrd hL hT).mono ?_
  rintro e w' ⟨w1, eb, vs, vq, vr, A, rfl, rfl, he, hb1⟩
  exact ⟨_, eb, _, rfl, he.gat (List.Perm.refl R) hw, fun b hb => by omega, hb1.trans ((Below.refl _ _).alloc hb1.size _)⟩

end Go.Proofs.YtfldcmdhneegmaaGreatDoor

/-
  The law Lossless: two engines that go on alike.
-/
namespace Go.Proofs.YtfldcmdhneegmaaGreatDoor
namespace En
/-- What Advance comes to. -/
def AdvO (P : Pat) (W : Int) (R : List Ev) (B : List Rn) (t : Int) (m : List (List Int × Int)) (c W' : Int) (R' : List Ev) (B' : List Rn) : Prop :=
  (t < W ∧ m = [] ∧ c = 3 ∧ W' = W ∧ R' = R ∧ B' = B) ∨
  (W ≤ t ∧ advInc P B ((sortEv R).filter fun e => decide (e.time ≤ t)) = none ∧ m = [] ∧ c = 4 ∧ W' = W ∧ R' = R ∧ B' = B) ∨
  (W ≤ t ∧ ∃ B1, advInc P B ((sortEv R).filter fun e => decide (e.time ≤ t)) = some (m, B1) ∧ c = 0 ∧ W' = t ∧ R' = (sortEv R).filter (fun e => decide (t < e.time)) ∧ B' = B1.filter (lastsP P.win t))
section
variable {P : Pat} {W W1 W2 t c1 c2 : Int} {R R1 R2 : List Ev} {B B1 B2 : List Rn} {m1 m2 : List (List Int × Int)}
theorem AdvO.fn (h1 : AdvO P W R B t m1 c1 W1 R1 B1) (h2 : AdvO P W R B t m2 c2 W2 R2 B2) : m1 = m2 ∧ c1 = c2 ∧ W1 = W2 ∧ R1 = R2 ∧ B1 = B2 := by
  rcases h1 with ⟨a, rfl, rfl, rfl, rfl, rfl⟩ | ⟨a, b, rfl, rfl, rfl, rfl, rfl⟩ | ⟨a, x, b, rfl, rfl, rfl, rfl⟩ <;>
  rcases h2 with ⟨a', rfl, rfl, rfl, rfl, rfl⟩ | ⟨a', b', rfl, rfl, rfl, rfl, rfl⟩ | ⟨a', x', b', rfl, rfl, rfl, rfl⟩
  · exact ⟨rfl, rfl, rfl, rfl, rfl⟩
  · omega
  · omega
  · omega
  · exact ⟨rfl, rfl, rfl, rfl, rfl⟩
  · rw [b] at b'; cases b'
  · omega
  · rw [b] at b'; cases b'
  · rw [b] at b'
    simp only [Option.some.injEq, Prod.mk.injEq] at b'
    rw [b'.1, b'.2]
    exact ⟨rfl, rfl, rfl, rfl, rfl⟩
theorem AdvO.pv {Next : Int} {K : Nat} {T : Int → Int} (h : AdvO P W R B t m1 c1 W1 R1 B1) (hw : Pw P W Next R B K T) (hv : Pv P Next R B) : Pv P Next R1 B1 := by
  rcases h with ⟨-, -, -, -, rfl, rfl⟩ | ⟨-, -, -, -, -, rfl, rfl⟩ | ⟨-, x, b, -, -, rfl, rfl⟩
  · exact hv
  · exact hv
  · exact hv.adv hw b
theorem AdvO.pz {Next : Int} {K : Nat} {T : Int → Int} (h : AdvO P W R B t m1 c1 W1 R1 B1) (hw : Pw P W Next R B K T) (hz : Pz P W R B) : Pz P W1 R1 B1 := by
  rcases h with ⟨-, -, -, rfl, rfl, rfl⟩ | ⟨-, -, -, -, rfl, rfl, rfl⟩ | ⟨-, x, b, -, rfl, rfl, rfl⟩
  · exact hz
  · exact hz
  · exact hz.adv hw b
theorem AdvO.wm (h : AdvO P W R B t m1 c1 W1 R1 B1) (ht : t ≤ 9223372036854775807) (hW : W < 9223372036854775808) : W1 < 9223372036854775808 := by
  rcases h with ⟨-, -, -, rfl, -, -⟩ | ⟨-, -, -, -, rfl, -, -⟩ | ⟨-, x, b, -, rfl, -, -⟩ <;> omega
end
end En
open Go.RowKit Go.Lib

/-- Two engines beside each other, made behind a world. -/
structure Two (w wr : World) (xb xe yb ye : Nat) (Gx Gy : Nat → Prop) (P : En.Pat) (Wx Nx : Int) (Rx : List En.Ev) (Bx : List En.Rn) (Kx : Nat) (Tx : Int → Int) (Wy Ny : Int) (Ry : List En.Ev) (By : List En.Rn) (Ky : Nat) (Ty : Int → Int) : Prop where
  x : GAt Gx wr xb xe P Wx Nx Rx Bx Kx Tx
  y : GAt Gy wr yb ye P Wy Ny Ry By Ky Ty
  dis : ∀ b, Gx b → ¬ Gy b
  nx : ∀ b, Gx b → w.heap.size ≤ b
  ny : ∀ b, Gy b → w.heap.size ≤ b
  bel : Below w.heap.size w wr
section
variable {w wr w' : World} {xb xe yb ye : Nat} {Gx Gy : Nat → Prop} {P : En.Pat} {Wx Nx : Int} {Rx : List En.Ev} {Bx : List En.Rn} {Kx : Nat} {Tx : Int → Int} {Wy Ny : Int} {Ry : List En.Ev} {By : List En.Rn} {Ky : Nat} {Ty : Int → Int}
theorem Two.swap (h : Two w wr xb xe yb ye Gx Gy P Wx Nx Rx Bx Kx Tx Wy Ny Ry By Ky Ty) : Two w wr yb ye xb xe Gy Gx P Wy Ny Ry By Ky Ty Wx Nx Rx Bx Kx Tx := ⟨h.y, h.x, fun b h1 h2 => h.dis b h2 h1, h.ny, h.nx, h.bel⟩
theorem Two.below (h : Two w wr xb xe yb ye Gx Gy P Wx Nx Rx Bx Kx Tx Wy Ny Ry By Ky Ty) (hb : Below wr.heap.size wr w') : Two w w' xb xe yb ye Gx Gy P Wx Nx Rx Bx Kx Tx Wy Ny Ry By Ky Ty := ⟨h.x.below hb, h.y.below hb, h.dis, h.nx, h.ny, h.bel.trans (hb.mono h.bel.size)⟩
theorem Two.feed {kind time : Int} (h : Two w wr xb xe yb ye Gx Gy P Wx Nx Rx Bx Kx Tx Wy Ny Ry By Ky Ty) (hE : ErrType w) (h1 : time ≤ 9223372036854775807) (hn : Nx ≤ 100000) :
    Calls Tryz.prog 26 #[.pointer (some ⟨xb, 0, none⟩), .agg #[.int .i32 kind, .int .i64 time]] wr fun e w' => e = .returned (.tuple #[.int .i64 (En.feed P Wx Nx Rx kind time).1.1, .int .i64 (En.feed P Wx Nx Rx kind time).1.2]) ∧ ∃ Gx', Two w w' xb xe yb ye Gx' Gy P Wx (En.feed P Wx Nx Rx kind time).2.1 (En.feed P Wx Nx Rx kind time).2.2 Bx Kx (En.upd Tx Nx time) Wy Ny Ry By Ky Ty := by
  have hlt : 4 < w.heap.size := World.block_lt_of_cell? w ⟨4, 0, none⟩ hE
  have hbs := h.bel.size
  refine (gFeed Gx xb xe P Wx Nx kind time Rx Bx Kx Tx wr h.x (by omega) h1 (hE.below h.bel) (fun e => by have := h.nx _ e; omega)).mono ?_
  rintro e w' ⟨rfl, G', g1, g2, -, g4⟩
  refine ⟨rfl, G', ⟨g1, h.y.frame g4.size (fun b hb => g4.block b (h.y.glt b hb) (fun e => h.dis b e hb)), fun b h3 h4 => ?_, fun b h3 => ?_, h.ny, ⟨g4.os.trans h.bel.os, g4.tape.trans h.bel.tape, g4.output.trans h.bel.output, Nat.le_trans h.bel.size g4.size, fun k hk => (g4.block k (by omega) (fun e => by have := h.nx k e; omega)).trans (h.bel.block k hk)⟩⟩⟩
  · rcases g2 b h3 with h5 | h5
    · exact h.dis b h5 h4
    · have := h.y.glt b h4
      omega
  · rcases g2 b h3 with h5 | h5
    · exact h.nx b h5
    · omega
theorem Two.adv {t : Int} (h : Two w wr xb xe yb ye Gx Gy P Wx Nx Rx Bx Kx Tx Wy Ny Ry By Ky Ty) (hE : ErrType w) (ht : t ≤ 9223372036854775807) (hK : Kx ≤ 90000) :
    Calls Tryz.prog 27 #[.pointer (some ⟨xb, 0, none⟩), .int .i64 t] wr fun e w' => ∃ (am : Option Addr) (cm : Nat) (L : List MV) (c : Int) (Gx' : Nat → Prop) (W' : Int) (R' : List En.Ev) (B' : List En.Rn) (K' : Nat), e = .returned (.tuple #[.slice am L.length cm, .int .i64 c]) ∧ L.length ≤ 1200000 ∧ (∀ y ∈ L, y.1.1.length ≤ 100000) ∧ MBk wr.heap.size w' (.slice am L.length cm) L ∧ En.AdvO P Wx Rx Bx t (L.map Prod.fst) c W' R' B' ∧ wr.grownBy w' (some xe) ∧ Two w w' xb xe yb ye Gx' Gy P W' Nx R' B' K' Tx Wy Ny Ry By Ky Ty := by
  have hbs := h.bel.size
  by_cases hW : t < Wx
  · obtain ⟨F, vs, vq, vr, Q, A, h1, h2, h3⟩ := h.x
    refine (sAdvance_late F xb xe P Wx Nx t vs vq vr Q A wr h1.sblk h1.pe hW (hE.below h.bel)).mono ?_
    rintro e w' ⟨rfl, hb⟩
    exact ⟨none, 0, [], 3, Gx, Wx, Rx, Bx, Kx, rfl, by simp, by simp, MBk.nil _ _, Or.inl ⟨hW, rfl, rfl, rfl, rfl, rfl⟩, ⟨hb.os, hb.tape, hb.output, hb.size, fun k hk _ => hb.block k hk⟩, h.below hb⟩
  · refine (gAdv Gx xb xe P Wx Nx t Rx Bx Kx Tx wr h.x (by omega) ht hK (hE.below h.bel)).mono ?_
    rintro e w' (⟨h1, rfl, hb⟩ | ⟨vm, rfl, L, B', G', ha, hmo, hLl, hLo, hG, hG1, -, gr⟩)
    · exact ⟨none, 0, [], 4, Gx, Wx, Rx, Bx, Kx, rfl, by simp, by simp, MBk.nil _ _, Or.inr (Or.inl ⟨by omega, h1, rfl, rfl, rfl, rfl, rfl⟩), ⟨hb.os, hb.tape, hb.output, hb.size, fun k hk _ => hb.block k hk⟩, h.below hb⟩
    · obtain ⟨am, cm, rfl⟩ := hmo.len
      have lxe := h.x.glt xe h.x.in2.2.1
      refine ⟨am, cm, L, 0, G', t, _, _, Kx + 12, rfl, hLl, fun y hy => by have := hLo y hy; omega, hmo.bk, Or.inr (Or.inr ⟨by omega, B', ha, rfl, rfl, rfl, rfl⟩), gr, ⟨hG, h.y.frame gr.size (fun b hb => gr.block b (h.y.glt b hb) (fun e => by cases e; exact h.dis _ h.x.in2.2.1 hb)), fun b h3 h4 => ?_, fun b h3 => ?_, h.ny, ⟨gr.os.trans h.bel.os, gr.tape.trans h.bel.tape, gr.output.trans h.bel.output, Nat.le_trans hbs gr.size, fun k hk => (gr.block k (by omega) (fun e => by cases e; have := h.nx _ h.x.in2.2.1; omega)).trans (h.bel.block k hk)⟩⟩⟩
      · rcases hG1 b h3 with h5 | ⟨h5, -⟩
        · exact h.dis b h5 h4
        · have := h.y.glt b h4
          omega
      · rcases hG1 b h3 with h5 | ⟨h5, -⟩
        · exact h.nx b h5
        · omega
end

/-- Both hold the same. -/
structure Lls (w wr : World) (xb xe yb ye : Nat) (i : Nat) : Prop where
  ex : ∃ (Gx Gy : Nat → Prop) (W Next : Int) (R : List En.Ev) (B : List En.Rn) (T : Int → Int), Two w wr xb xe yb ye Gx Gy ⟨abaL, 20⟩ W Next R B 24 T W Next R B 24 T ∧ En.Pv ⟨abaL, 20⟩ Next R B ∧ En.Pz ⟨abaL, 20⟩ W R B ∧ Next ≤ i ∧ W < 9223372036854775808

end Go.Proofs.YtfldcmdhneegmaaGreatDoor

/-
  The law Lossless, walked.
-/
namespace Go.Proofs.YtfldcmdhneegmaaGreatDoor
open Go.RowKit Go.Lib

theorem Lls.start {w w1 w2 w3 : World} {xb xe yb ye : Nat} {Gx Gy : Nat → Prop} {W Next : Int} {R : List En.Ev} {B : List En.Rn} {K : Nat} {T : Int → Int} (h : KAt w w1 xb xe Gx W Next R B K T 8192 8192) (hb : Below w1.heap.size w1 w2) (hy : GAt Gy w3 yb ye ⟨abaL, 20⟩ W Next R B K T) (hG : ∀ b, Gy b → w2.heap.size ≤ b) (hb2 : Below w2.heap.size w2 w3) : Lls w w3 xb xe yb ye 8192 := by
  have h2 := (h.below hb).below hb2
  have hs := h.bel.size
  have hs1 := hb.size
  exact ⟨Gx, Gy, W, Next, R, B, T, ⟨h2.g.short h.v, hy.short h.v, fun b h3 h4 => by have := h.g.glt b h3; have := hG b h4; omega, h.new, fun b h4 => by have := hG b h4; omega, h2.bel⟩, h.v, h.z, by have := h.next; omega, by have := h.wm; omega⟩
theorem Lls.below {w wr w' : World} {xb xe yb ye i : Nat} (h : Lls w wr xb xe yb ye i) (hb : Below wr.heap.size wr w') : Lls w w' xb xe yb ye i := by
  obtain ⟨Gx, Gy, W, Next, R, B, T, h1, h2⟩ := h.ex
  exact ⟨Gx, Gy, W, Next, R, B, T, h1.below hb, h2⟩

set_option maxHeartbeats 4000000 in
set_option maxRecDepth 1000000 in
theorem lossless_any (ao bo : Option Addr) (cap bcap : Nat) (l m : List KV) (w : World) (hE : EnvG w) (hT : Pow10 w) (hl : EvsIn w (.slice ao l.length cap) l) (hm : EvsIn w (.slice bo m.length bcap) m) (hrg : ∀ i (hi : i < m.length), Rng64 m[i].2.1 ∧ Rng64 m[i].2.2) :
    Calls Tryz.prog 9 #[.slice ao l.length cap, .slice bo m.length bcap] w fun e w' => e = .returned (.bool true) ∧ Below w.heap.size w w' := by
  have HE := hid hE
  have HT := hid hT
  have HL := hid hl
  have HM := hid hm
  have HG := hid hrg
  clear hE hT hl hm hrg
  go_enter Tryz.func9, Tryz.ntmps9
  go_wp2_with (go_at_call 29; fail)
  refine (kEngine_any ao cap l w HE.out HL.out).mono ?_
  rintro e w1 ⟨xb, xe, Gx, W, Next, R, B, K, T, rfl, hk⟩
  have H1 := hid hk
  clear hk
  go_wp2_with (go_at_call 13; fail)
  refine (gSave H1.out.g aba_fine H1.out.v (by have := H1.out.next; omega) (by have := H1.out.wm; omega) (HT.out.below H1.out.bel)).mono ?_
  rintro e w2 ⟨ab, cb, rfl, hob, hb2⟩
  have hlen := frB_len aba_fine H1.out.g.pw H1.out.v (by have := H1.out.next; omega) (by have := H1.out.wm; omega)
  have H2 := hid (And.intro hob hb2)
  clear hob hb2
  go_wp2_with (go_at_call 11; fail)
  have HB2 : Hid (BytesAt (fun g => g < w2.heap.size) w2 (.slice ab (frB ⟨abaL, 20⟩ W Next R B).length cb) (frB ⟨abaL, 20⟩ W Next R B)) := RowAt.mono (RowAt.ofOwn H2.out.1) (fun g hg _ => hg)
  have hbw2 : Below w.heap.size w w2 := H1.out.bel.trans (H2.out.2.mono H1.out.bel.size)
  refine (gLoad aba_fine H1.out.g.pw H1.out.v H1.out.z (by have := H1.out.next; omega) (by have := H1.out.wm; omega) _ w2 HB2.out (HE.out.below hbw2).letters (HT.out.below hbw2)).mono ?_
  rintro e w3 ⟨yb, ye, Gy, rfl, hy, hGy, hb3⟩
  have H3 := hid (And.intro hy (And.intro hGy hb3))
  have hbw3 : Below w.heap.size w w3 := hbw2.trans (hb3.mono hbw2.size)
  have HW3 := hid hbw3
  clear hy hGy hb3 hbw2 hbw3
  have HFB : Hid (∃ fb, frB ⟨abaL, 20⟩ W Next R B = fb) := ⟨_, rfl⟩
  obtain ⟨fb, hfb⟩ := HFB.out
  have HS := hid (gSave H3.out.1 aba_fine H1.out.v (by have := H1.out.next; omega) (by have := H1.out.wm; omega) (HT.out.below HW3.out))
  rw [hfb] at hlen HB2 HS H2
  rw [hfb]
  have HFB := hid hfb
  clear hfb
  have hl10 : decide ((fb.length : Int) < 10) = false := decide_eq_false (by omega)
  go_wp2_with (go_at_call 13; fail)
  refine HS.out.mono ?_
  rintro e w4 ⟨ac, cc, rfl, hoc, hb4⟩
  have K4 := hid (And.intro (show BytesAt (fun g => g < w4.heap.size) w4 (.slice ab fb.length cb) fb from RowAt.mono (RowAt.below (RowAt.below HB2.out H3.out.2.2) hb4) (fun g h1 _ => by omega)) (show BytesAt (fun g => g < w4.heap.size) w4 (.slice ac fb.length cc) fb from RowAt.mono (RowAt.ofOwn hoc) (fun g h1 _ => h1)))
  have HLL := hid ((Lls.start H1.out H2.out.2 H3.out.1 H3.out.2.1 H3.out.2.2).below hb4)
  have hbw4 : Below w.heap.size w w4 := HW3.out.trans (hb4.mono HW3.out.size)
  have HW4 := hid hbw4
  have t1 := K4.out.1.text (by intro e; injection e; omega)
  have t2 := K4.out.2.text (by intro e; injection e; omega)
  clear hoc hb4 hbw4 HS H3 HB2 H2 HFB
  go_wp2
  go_loopw [10] (fun s10 wr => ∃ (i : Nat), s10 = .int .i64 i ∧ i ≤ 4096 ∧ i ≤ m.length ∧ Hid (Lls w wr xb xe yb ye (8192 + i))) (fun s10 _ => 4096 - (intOf s10).toNat)
  case atStart => exact ⟨0, rfl, by omega, by omega, HLL.out⟩
  case round =>
    obtain ⟨i, rfl, hi4, him, hr⟩ := hrel
    obtain ⟨Gx2, Gy2, W2, N2, R2, B2, T2, hT2, hV2, hZ2, hN2, hW2⟩ := hr.out.ex
    have HV := hid (And.intro hV2 (And.intro hZ2 (And.intro hN2 hW2)))
    have HT2 := hid hT2
    clear hT2 hV2 hZ2 hr t1 t2 K4 HLL hl10 HW4 HW3
    by_cases hlt : i < m.length ∧ i < 4096
    · obtain ⟨hlt, h4⟩ := hlt
      have hi' : (i : Int) < (m.length : Int) := by omega
      have h4' : (i : Int) < 4096 := by omega
      have HC := hid (fun (W' : World) (hb : Below w.heap.size w W') => HM.out.get hb hlt)
      have hrg := HG.out i hlt
      obtain ⟨bb, oo, rfl, c0, c1, c2⟩ := HC.out wr HT2.out.bel
      generalize hg0 : m[i].1 = kd at *
      generalize hg1 : m[i].2.1 = tm at *
      generalize hg2 : m[i].2.2 = gv at *
      go_upto_if 66 with fail
      go_cut [11] (fun s11 wx => ∃ k : Int, s11 = .int .i32 k ∧ wx = wr)
      case first =>
        go_wp2
        all_goals (go_meet; case rel => exact ⟨_, rfl, rfl⟩)
      case rest =>
        obtain ⟨k, rfl, hwx⟩ := hcut
        have hwx' := hwx.symm
        subst hwx'
        clear c0
        go_wp2_with (go_at_call 26; fail)
        refine (HT2.out.feed HE.out.err hrg.1.2 (by have := HV.out.2.2.1; omega)).mono ?_
        rintro e w5 ⟨rfl, Gx3, h3⟩
        obtain ⟨b', o', he', -, c1', -⟩ := HC.out w5 h3.bel
        cases he'
        have H5 := hid h3
        have HF5 := hid (HT2.out.x.pw.fed k tm hrg.1.2).2.2
        have HV5 := hid (And.intro (HV.out.1.fed HT2.out.x.pw.n0 k tm (W := W2)) (HV.out.2.1.fed HV.out.1 k tm))
        clear c1 c2 h3
        go_wp2_with (go_at_call 26; fail)
        refine (H5.out.swap.feed HE.out.err hrg.1.2 (by have := HV.out.2.2.1; omega)).mono ?_
        rintro e w6 ⟨rfl, Gy3, h4⟩
        obtain ⟨b', o', he', -, -, c2⟩ := HC.out w6 h4.bel
        cases he'
        have H6 := hid h4.swap
        have hnx5 : (En.feed ⟨abaL, 20⟩ W2 N2 R2 k tm).2.1 ≤ ((8192 + (i + 1) : Nat) : Int) := by have := HF5.out; have := HV.out.2.2.1; omega
        have HNX := hid hnx5
        clear c1' H5 h4 HT2 hnx5 HF5
        generalize En.feed ⟨abaL, 20⟩ W2 N2 R2 k tm = fd at *
        go_wp2_with (go_at_call 27; fail)
        refine (H6.out.adv HE.out.err hrg.2.2 (by omega)).mono ?_
        rintro e w7 ⟨am, cm, L, cx, Gx4, Wx, Rx, Bx, Kx, rfl, hL1, hL2, hmx, hax, gx, h7⟩
        obtain ⟨b', o', he', -, -, c2'⟩ := HC.out w7 h7.bel
        cases he'
        have H7 := hid (And.intro hmx (And.intro hax h7))
        clear c2 hmx hax gx h7
        go_wp2_with (go_at_call 27; fail)
        refine (H7.out.2.2.swap.adv HE.out.err hrg.2.2 (by omega)).mono ?_
        rintro e w8 ⟨bm, dm, M, cy, Gy4, Wy, Ry, By, Ky, rfl, hM1, hM2, hmy, hay, gy, h8⟩
        obtain ⟨f1, rfl, rfl, rfl, rfl⟩ := H7.out.2.1.fn hay
        have HM8 := hid (And.intro (MBk.eng H7.out.1 H7.out.2.2.y.eng gy) (And.intro hmy f1))
        have H8 : Hid (Lls w w8 xb xe yb ye (8192 + (i + 1))) := by
          have hv := H7.out.2.1.pv H6.out.x.pw HV5.out.1
          have hz := H7.out.2.1.pz H6.out.x.pw HV5.out.2
          have h9 := h8.swap
          exact ⟨Gx4, Gy4, Wx, fd.2.1, Rx, Bx, _, ⟨h9.x.short hv, h9.y.short hv, h9.dis, h9.nx, h9.ny, h9.bel⟩, hv, hz, HNX.out, H7.out.2.1.wm hrg.2.2 HV.out.2.2.2⟩
        have HL := hid (And.intro hL1 hL2)
        clear c2' hay gy h8 H7 H6 hmy f1 HV5 HNX hL1 hL2 hM1 hM2
        go_wp2_with (go_at_call 28; fail)
        refine (kSame_same _ _ L M w8 HM8.out.1.rd HM8.out.2.1.rd HM8.out.2.2 (by have := HL.out.1; omega) (fun y hy => by have := HL.out.2 y hy; omega)).mono ?_
        rintro e w9 ⟨rfl, hb9⟩
        have H9 := hid (H8.out.below hb9)
        clear hb9 H8 HM8
        go_wp2
        go_roundw
        case rel => exact ⟨i + 1, by go_num, by omega, by omega, H9.out⟩
        case measure => simp [intOf]; omega
    · have HB := hid HT2.out.bel
      have HS1 := hid (gSave HT2.out.x aba_fine HV.out.1 (by have := HV.out.2.2.1; omega) HV.out.2.2.2 (HT.out.below HB.out))
      have hlen := frB_len aba_fine HT2.out.x.pw HV.out.1 (by have := HV.out.2.2.1; omega) HV.out.2.2.2
      have HS2 := hid (fun W' (hb : Below wr.heap.size wr W') => gSave (HT2.out.y.below hb) aba_fine HV.out.1 (by have := HV.out.2.2.1; omega) HV.out.2.2.2 (HT.out.below (HB.out.trans (hb.mono HB.out.size))))
      generalize frB ⟨abaL, 20⟩ W2 N2 R2 B2 = fb2 at *
      clear HT2 HV
      by_cases h1 : i < m.length
      · have h1' : (i : Int) < (m.length : Int) := by omega
        have h2' : decide ((i : Int) < 4096) = false := decide_eq_false (by omega)
        go_wp2_with (go_at_call 13; fail)
        refine HS1.out.mono ?_
        rintro e w5 ⟨a1, k1, rfl, ho1, hb1⟩
        have K5 := hid (And.intro ho1 hb1)
        clear ho1 hb1
        go_wp2_with (go_at_call 13; fail)
        refine (HS2.out w5 K5.out.2).mono ?_
        rintro e w6 ⟨a2, k2, rfl, ho2, hb2⟩
        have t1 := BytesAt.text (l := fb2) (RowAt.below (RowAt.ofOwn K5.out.1) hb2) (by intro e; injection e; omega)
        have t2 := BytesAt.text (l := fb2) (RowAt.ofOwn ho2) (by intro e; injection e; omega)
        have H6 := hid (HB.out.trans ((K5.out.2.trans (hb2.mono K5.out.2.size)).mono HB.out.size))
        clear ho2 hb2 K5 HS1 HS2
        go_wp2
        go_ret
        exact ⟨rfl, H6.out⟩
      · have h1' : decide ((i : Int) < (m.length : Int)) = false := decide_eq_false (by omega)
        go_wp2_with (go_at_call 13; fail)
        refine HS1.out.mono ?_
        rintro e w5 ⟨a1, k1, rfl, ho1, hb1⟩
        have K5 := hid (And.intro ho1 hb1)
        clear ho1 hb1
        go_wp2_with (go_at_call 13; fail)
        refine (HS2.out w5 K5.out.2).mono ?_
        rintro e w6 ⟨a2, k2, rfl, ho2, hb2⟩
        have t1 := BytesAt.text (l := fb2) (RowAt.below (RowAt.ofOwn K5.out.1) hb2) (by intro e; injection e; omega)
        have t2 := BytesAt.text (l := fb2) (RowAt.ofOwn ho2) (by intro e; injection e; omega)
        have H6 := hid (HB.out.trans ((K5.out.2.trans (hb2.mono K5.out.2.size)).mono HB.out.size))
        clear ho2 hb2 K5 HS1 HS2
        go_wp2
        go_ret
        exact ⟨rfl, H6.out⟩

end Go.Proofs.YtfldcmdhneegmaaGreatDoor
