/-
  package chain's WALKS: between.
-/
import Derived.Test.YtfldcmdhneegmaaChB
import Derived.Deep.RegionHeld3
namespace Go.Proofs.Ytfldcmdhneegmaa
open Go.RowKit Go.Lib

theorem BytesAt.part {F : Nat → Prop} {w : World} {ao : Option Addr} {n cap : Nat} {l : List UInt8} (h : BytesAt F w (.slice ao n cap) l) (p q : Nat) (hp : p ≤ q) (hq : q ≤ l.length) : BytesAt F w (Go.sliced ao p q cap 1) ((l.take q).drop p) := by
  have hn : n = l.length := by
    rcases h.2 with ⟨he, h0⟩ | ⟨b, o, cap', he, _⟩
    · cases he; exact h0.symm
    · cases he; rfl
  subst hn
  have := RowAt.sliced (k := 1) h p q hp hq
  unfold BytesAt
  have e1 : ((l.take q).drop p).length = q - p := by rw [List.length_drop, List.length_take]; omega
  have e2 : byteCells ((l.take q).drop p) = ((byteCells l).drop (p * 1)).take ((q - p) * 1) := by
    simp [byteCells, List.map_drop, List.map_take, List.drop_take]
  rw [e1, e2]
  exact this
theorem BytesAt.mid {F : Nat → Prop} {w : World} {a : Addr} {cap : Nat} {l : List UInt8} (h : BytesAt F w (.slice (some a) l.length cap) l) (i j : Int) (p q : Nat) (hi : i = p) (hj : j = q) (hp : p ≤ q) (hq : q ≤ l.length) (hc : l.length ≤ cap) :
    ∃ a' c', (∀ W, (Instr.slice 24 (.slice (some a) l.length cap) (some (.int .i64 i)) (some (.int .i64 j)) none).run Try.prog W = .ok (.slice (some a') (q - p) c') W) ∧ BytesAt F w (.slice (some a') (q - p) c') ((l.take q).drop p) := by
  subst hi hj
  have hsl : ∃ a' c', Go.sliced (some a) p q cap 1 = .slice (some a') (q - p) c' := by
    unfold Go.sliced
    split
    · exact ⟨_, _, rfl⟩
    · exact ⟨_, _, rfl⟩
  obtain ⟨a', c', e⟩ := hsl
  refine ⟨a', c', fun W => ?_, e ▸ h.part p q hp hq⟩
  rw [← e, run_slice_lh W 24 (some a) l.length cap (by rw [Try.elemBytes]; exact Try.underlying24) .i64 .i64 p q (by omega) (by omega) (by omega), Try.elemBytes, Try.sizeOf5]
  simp [Result.andThen]

theorem blk_four {w : World} {b : Nat} {x y z u : Value} {t : TypeId} (h : w.heap[b]? = some (.cells #[x, y, z, u] t (0, 0))) : w.cell? ⟨b, 0, none⟩ = some x ∧ w.cell? ⟨b, 1, none⟩ = some y ∧ w.cell? ⟨b, 2, none⟩ = some z ∧ w.cell? ⟨b, 3, none⟩ = some u ∧ ∀ i, w.frozen? ⟨b, i, none⟩ = false := by
  simp [World.cell?, World.frozen?, h]

theorem set_four {w : World} {b : Nat} {x y z u : Value} {t : TypeId} (h : w.heap[b]? = some (.cells #[x, y, z, u] t (0, 0))) (v : Value) :
    (w.setCell ⟨b, 0, none⟩ v).heap[b]? = some (.cells #[v, y, z, u] t (0, 0)) ∧ (w.setCell ⟨b, 1, none⟩ v).heap[b]? = some (.cells #[x, v, z, u] t (0, 0)) ∧ (w.setCell ⟨b, 2, none⟩ v).heap[b]? = some (.cells #[x, y, v, u] t (0, 0)) ∧ (w.setCell ⟨b, 3, none⟩ v).heap[b]? = some (.cells #[x, y, z, v] t (0, 0)) := by
  have hlt := lt_of_block h
  have h' : w.heap[b] = .cells #[x, y, z, u] t (0, 0) := by simpa [Array.getElem?_eq_getElem hlt] using h
  refine ⟨?_, ?_, ?_, ?_⟩
  all_goals
    show (w.heap.modify b _)[b]? = _
    rw [Array.getElem?_eq_getElem (by simpa using hlt), Array.getElem_modify_self, h']
    rfl
theorem put_four {w : World} {b : Nat} {x y z u : Value} {t : TypeId} (h : w.heap[b]? = some (.cells #[x, y, z, u] t (0, 0))) (x' y' z' u' : Value) :
    ((((w.setCell ⟨b, 0, none⟩ x').setCell ⟨b, 1, none⟩ y').setCell ⟨b, 2, none⟩ z').setCell ⟨b, 3, none⟩ u').heap[b]? = some (.cells #[x', y', z', u'] t (0, 0)) :=
  (set_four (set_four (set_four (set_four h x').1 y').2.1 z').2.2.1 u').2.2.2
theorem bel_four {B b : Nat} {a w : World} (h : Below B a w) (hb : B ≤ b) (x y z u : Value) : Below B a ((((w.setCell ⟨b, 0, none⟩ x).setCell ⟨b, 1, none⟩ y).setCell ⟨b, 2, none⟩ z).setCell ⟨b, 3, none⟩ u) := (((h.setCell hb _).setCell hb _).setCell hb _).setCell hb _
theorem wrap_u64 {x : Int} (h1 : 0 ≤ x) (h2 : x < 18446744073709551616) : IntKind.u64.wrap x = x := by
  simp only [IntKind.wrap, IntKind.bits, IntKind.signed]
  simp
  omega

/-- A delta, as a value. -/
def dval (s p q : Nat) (vm : Value) : Value := .agg #[.int .u32 s, .int .u64 p, .int .u64 q, vm]
/-- What between answers. -/
def BetweenEnd (G : Nat → Prop) (a b : List UInt8) (w : World) (e : Ending) (w' : World) : Prop :=
  ∃ am cm, e = .returned (dval (Fr.val (Fr.last4 a)) (Fr.cp a b) (Fr.cq a b (Fr.cp a b)) (.slice (some am) (b.length - Fr.cq a b (Fr.cp a b) - Fr.cp a b) cm)) ∧ BytesAt G w' (.slice (some am) (b.length - Fr.cq a b (Fr.cp a b) - Fr.cp a b) cm) ((b.take (b.length - Fr.cq a b (Fr.cp a b))).drop (Fr.cp a b)) ∧ Below w.heap.size w w'

set_option maxHeartbeats 2000000 in
set_option maxRecDepth 1000000 in
theorem between_any (F G : Nat → Prop) (v u : Value) (a b : List UInt8) (w : World) (hv : BytesAt F w v a) (hu : BytesAt G w u b) (h4 : 4 ≤ a.length) (h0 : 0 < b.length) (ha : a.length ≤ 1000000) (hb : b.length ≤ 1000000) :
    Calls Try.prog 42 #[v, u] w (BetweenEnd G a b w) := by
  obtain ⟨ao, ca, rfl, -, -⟩ := RowAt.slice hv
  obtain ⟨bo, cb, rfl, hcb, -⟩ := RowAt.slice hu
  obtain ⟨b1, o1, rfl, -⟩ := BytesAt.get hv (i := 0) (by omega)
  obtain ⟨b2, o2, rfl, -⟩ := BytesAt.get hu (i := 0) h0
  obtain ⟨hpa, hpb⟩ := Fr.cp_le a b
  obtain ⟨hqa, hqb⟩ := Fr.cq_le a b (Fr.cp a b)
  have hcq : Fr.cp (a.drop (Fr.cp a b)).reverse (b.drop (Fr.cp a b)).reverse = Fr.cq a b (Fr.cp a b) := rfl
  generalize hp : Fr.cp a b = p at *
  obtain ⟨va, hna, hsa, hva⟩ := hv.tail (p : Int) p rfl hpa
  obtain ⟨vb, hnb, hsb, hvb⟩ := hu.tail (p : Int) p rfl hpb
  have hal : (a.drop p).length ≤ 1000000 := by rw [List.length_drop]; omega
  have hbl : (b.drop p).length ≤ 1000000 := by rw [List.length_drop]; omega
  generalize hq : Fr.cq a b p = q at *
  obtain ⟨am, cm, hsm, hvm⟩ := hu.mid (p : Int) ((b.length : Int) - q) p (b.length - q) rfl (by omega) (by omega) (by omega) hcb
  have hB : ∀ o n, Below w.heap.size w ((w.alloc o).drewN n) := fun o n => bel_drewN ((Below.refl _ _).alloc (Nat.le_refl _) _) n
  have HC1 : Hid (∀ o, Calls Try.prog 46 #[.slice (some ⟨b1, o1, none⟩) a.length ca, .slice (some ⟨b2, o2, none⟩) b.length cb] (w.alloc o) fun e w' => e = .returned (.int .i64 p) ∧ ∃ q, w' = (w.alloc o).drewN q) := fun o => by
    have := alike_any F G _ _ a b (w.alloc o) (hv.below (hB o 0)) (hu.below (hB o 0)) ha
    rw [hp] at this
    exact this
  have HC2 : Hid (∀ W, Below w.heap.size w W → Calls Try.prog 47 #[va, vb] W fun e w' => e = .returned (.int .i64 q) ∧ ∃ m, w' = W.drewN m) := fun W hW => by
    have := alikeEnd_any F G _ _ (a.drop p) (b.drop p) W (hva.below hW) (hvb.below hW) hal hbl
    rw [hcq] at this
    exact this
  have HC3 := hid (fun W (hW : Below w.heap.size w W) => fSumOf_any F _ a W (hv.below hW) h4 ha)
  have HVM := hid hvm
  have HQ := hid hq
  have HPP := hid hp
  have hwr : IntKind.i64.wrap ((b.length : Int) - (q : Int)) = (b.length : Int) - (q : Int) := wrap_i64 (by omega) (by omega)
  have hpq : (p : Int) ≤ (b.length : Int) - (q : Int) := by omega
  clear hv hu hva hvb hvm hcq hq hp hB
  go_enter Try.func42, Try.ntmps42
  go_wp2_with (go_at_call 46; refine (HC1.out _).mono ?_; rintro e w1 ⟨rfl, q1, hw⟩; have hk4 : w1.heap[w.heap.size]? = some (.cells #[.int .u32 0, .int .u64 0, .int .u64 0, .slice none 0 0] 49 (0, 0)) := (by rw [hw]; exact heap_alloc_new w _); obtain ⟨d0, d1, d2, d3, dz⟩ := blk_four hk4; have HK := hid hk4; have HB1 : Hid (Below w.heap.size w w1) := (by rw [hw]; exact bel_drewN ((Below.refl _ _).alloc (Nat.le_refl _) _) _); clear hk4 hw)
  go_quiet ((go_at_call 47; exact Calls.quiet_of (HC2.out _ (bel_drewN HB1.out _))))
  go_wp2
  go_region_held3 (fun _ => True) (exact trivial) ((go_at_call 16; refine (HC3.out _ (by first | exact bel_drewN HB1.out _ | exact Below.drew (bel_drewN HB1.out _))).mono ?_; rintro e w3 ⟨rfl, hw⟩; subst hw))
  all_goals
    go_wp2
  have hp4 := put_four (show (w1.drewN (nq + 1)).heap[w.heap.size]? = _ from HK.out) (Value.int IntKind.u32 (Fr.val (a.drop (a.length - 4)))) (Value.int IntKind.u64 (IntKind.u64.wrap p)) (Value.int IntKind.u64 (IntKind.u64.wrap q)) (Value.slice (some am) (b.length - q - p) cm)
  obtain ⟨g0, g1, g2, g3, -⟩ := blk_four hp4
  have HBF := hid (bel_four (bel_drewN HB1.out (nq + 1)) (Nat.le_refl _) (Value.int IntKind.u32 (Fr.val (a.drop (a.length - 4)))) (Value.int IntKind.u64 (IntKind.u64.wrap p)) (Value.int IntKind.u64 (IntKind.u64.wrap q)) (Value.slice (some am) (b.length - q - p) cm))
  refine bodyPost_ret (v := .agg #[Value.int IntKind.u32 (Fr.val (a.drop (a.length - 4))), Value.int IntKind.u64 (IntKind.u64.wrap p), Value.int IntKind.u64 (IntKind.u64.wrap q), Value.slice (some am) (b.length - q - p) cm]) (by simp [results, Try.results42, go_sem, g0, g1, g2, g3]) rfl ?_
  unfold BetweenEnd
  rw [HPP.out, HQ.out]
  refine ⟨am, cm, ?_, HVM.out.below HBF.out, HBF.out⟩
  rw [wrap_u64 (by omega) (by omega), wrap_u64 (by omega) (by omega)]
  rfl

end Go.Proofs.Ytfldcmdhneegmaa
