/-
  package chain's WALK of led.
-/
import Derived.Test.YtfldcmdhneegmaaRsA
import Derived.Test.YtfldcmdhneegmaaRsB
import Derived.Test.YtfldcmdhneegmaaChK
namespace Go.Proofs.Ytfldcmdhneegmaa
open Go.RowKit Go.Lib Go.Shelf

attribute [local go_sem] Oper.semAt_some

/-- What a state becomes by a delta's parts, if it leads anywhere. -/
def ledOf (s p q : Nat) (m : List UInt8) (x : List UInt8) : Option (List UInt8) := Fr.okOf (Fr.applyIn x s p q m)
theorem ownsRow_kept {w w' : World} {base : Nat} {e : TypeId} {size : Nat} {v : Value} {n : Nat} {xs : List Value} {row : Option Nat} (h : w.ownsRow base e size v n xs) (hg : w.grownBy w' row) (hr : ∀ r, row = some r → ∃ o : Obj, w.heap[r]? = some o ∧ o.isCells = false) : w'.ownsRow base e size v n xs := by
  refine ⟨h.1, ?_⟩
  rcases h.2 with h2 | ⟨g, cap, cur, hv, hb, hh, r⟩
  · exact Or.inl h2
  · refine Or.inr ⟨g, cap, cur, hv, hb, ?_, r⟩
    rw [hg.block g (lt_of_block hh) (fun e => by obtain ⟨o, ho, hc⟩ := hr g e.symm; rw [hh] at ho; cases ho; cases hc)]
    exact hh
theorem keeps_below {W W' : World} (h : Below W.heap.size W W') : KeepsOthers W W' := ⟨h.size, fun k _ hk _ => (h.block k (lt_of_block hk)).trans hk⟩

theorem ItemsAt.up {n₀ n₁ : Nat} {w0 A : World} {v : Value} {zs : List (Item w0)} (h : ItemsAt n₀ w0 A v zs) (hn : n₀ ≤ n₁) : ItemsAt n₁ w0 A v zs := by
  rcases h with h | ⟨b, off, cap, e, hb, hc⟩
  · exact .inl h
  · exact .inr ⟨b, off, cap, e, by omega, hc⟩
theorem ErrNo.iface {c : Int} {v : Value} (h : ErrNo c v) : c ≠ 0 ∧ ∃ t x, v = .iface t x := by
  rcases h with ⟨rfl, n, m, rfl⟩ | ⟨rfl, ⟨n, s, rfl⟩ | ⟨s, rfl⟩⟩
  · exact ⟨by decide, _, _, rfl⟩
  · exact ⟨by decide, _, _, rfl⟩
  · exact ⟨by decide, _, _, rfl⟩
theorem ApEnd.ok {D : List UInt8} {w w' : World} {e : Ending} (h : ApEnd (D, 0) w e w') : ∃ a c, e = .returned (.tuple #[.slice a D.length c, .nilIface]) ∧ w'.ownsRow w.heap.size 5 1 (.slice a D.length c) D.length (byteCells D) ∧ Below w.heap.size w w' := by
  obtain ⟨h1, h2⟩ := h
  rcases h2 with ⟨-, v, he, ho⟩ | ⟨-, v, -, hn⟩
  · obtain ⟨a, c, rfl⟩ := own_slice ho
    exact ⟨a, c, he, ho, h1⟩
  · exact absurd rfl hn.iface.1
theorem ApEnd.no {D : List UInt8} {C : Int} {w w' : World} {e : Ending} (h : ApEnd (D, C) w e w') (hC : C ≠ 0) : ∃ t x, e = .returned (.tuple #[.slice none 0 0, .iface t x]) ∧ Below w.heap.size w w' := by
  obtain ⟨h1, h2⟩ := h
  rcases h2 with ⟨h0, -⟩ | ⟨-, v, he, hn⟩
  · exact absurd h0 hC
  · obtain ⟨-, t, x, rfl⟩ := hn.iface
    exact ⟨t, x, he, h1⟩
theorem findSome_snoc {α β : Type} (g : α → Option β) (pre : List α) (x : α) (h : ∀ y ∈ pre, g y = none) : (pre ++ [x]).findSome? g = g x := by
  rw [List.findSome?_append]
  have : pre.findSome? g = none := List.findSome?_eq_none_iff.2 h
  rw [this]
  simp
/-- What led answers. -/
def LedEnd (o : Option (List UInt8)) (w : World) (e : Ending) (w' : World) : Prop :=
  Below w.heap.size w w' ∧
    match o with
    | some t => ∃ v, e = .returned v ∧ w'.ownsRow w.heap.size 5 1 v t.length (byteCells t)
    | none => e = .returned (.slice none 0 0)

set_option maxRecDepth 100000 in
set_option maxHeartbeats 4000000 in
theorem led_any (r : Nat) (l : List Ent) (s p q k : Nat) (am : Addr) (n cm : Nat) (m : List UInt8) (G : Nat → Prop) (w : World) (zs : List (Item w)) (hM : MapAt w r l) (hZ : ItemsAt w.heap.size w w (valE s k l) zs) (hlen : zs.length ≤ 1000)
    (hm : BytesAt G w (.slice (some am) n cm) m) (hml : m.length ≤ 100000) (hp : p < 18446744073709551616) (hq : q < 18446744073709551616) :
    Calls Try.prog 15 #[.map (some r), dval s p q (.slice (some am) n cm), .int .i64 k] w (LedEnd (zs.findSome? fun x => ledOf s p q m x.1.2.2) w) := by
  obtain ⟨ao, cn, cc, hv⟩ : ∃ a n c, valE s k l = .slice a n c := by
    rcases hZ with ⟨h, _⟩ | ⟨b, off, cap, h, _⟩
    · exact ⟨_, _, _, h⟩
    · exact ⟨_, _, _, h⟩
  obtain ⟨WD, hWD⟩ : ∃ W, (w.alloc (.cells #[.int .u32 s, .int .u64 p, .int .u64 q, .slice (some am) n cm] 49)).alloc (.cells #[.slice none 0 0] 24) = W := ⟨_, rfl⟩
  have hbWD : Below w.heap.size w WD := by rw [← hWD]; exact ((Below.refl _ _).alloc (Nat.le_refl _) _).alloc (by simp) _
  have hszD : WD.heap.size = w.heap.size + 2 := by rw [← hWD]; simp
  have hMD : MapAt WD r l := by
    obtain ⟨es, clock, h1, h2⟩ := hM
    exact ⟨es, clock, (hbWD.block r (lt_of_block h1)).trans h1, h2⟩
  have hlk := run_look hMD s k
  unfold pk at hlk
  rw [hv] at hlk hZ
  have hdD : WD.heap[w.heap.size]? = some (.cells #[.int .u32 s, .int .u64 p, .int .u64 q, .slice (some am) n cm] 49 (0, 0)) := by rw [← hWD]; exact (Below.heap_alloc _ _ _ (by simp)).trans (heap_alloc_new w _)
  have hrD : Boxed WD (w.heap.size + 1) 24 (.slice none 0 0) := by rw [← hWD]; exact new_at (by simp)
  obtain ⟨d0, d1, d2, d3, -⟩ := blk_four hdD
  unfold dval
  refine (callsIn_wide (n := 3)).1 ?_
  refine callsIn_of_wp_marks Try.func15 rfl trivial ?_ rfl
  simp only [Try.ntmps15, List.size_toArray, List.length_cons, List.length_nil, Nat.reduceAdd, Nat.reduceSub, Array.replicate_succ, Array.replicate_zero, List.push_toArray, List.append_toArray, List.nil_append, List.cons_append]
  gi_wp2_with (refine ⟨trivial, ?_⟩; gi_at_call 27; refine (callsIn_wide.2 (backward_any _ _ _ _)).mono ?_; rintro e w' ⟨rfl, hw'⟩; subst hw')
  obtain ⟨W0, hW0⟩ : ∃ W, WD.alloc (.cells #[.slice ao cn cc] 23) = W := ⟨_, rfl⟩
  have hb0 : Below (w.heap.size + 2) WD W0 := by rw [← hW0, ← hszD]; exact (Below.refl _ _).alloc (Nat.le_refl _) _
  have hsz0 : W0.heap.size = w.heap.size + 3 := by rw [← hW0]; simp [hszD]
  have hx0 : W0.cell? ⟨w.heap.size + 2, 0, none⟩ = some (.slice ao cn cc) := by
    have h : W0.heap[w.heap.size + 2]? = some (.cells #[.slice ao cn cc] 23 (0, 0)) := by rw [← hW0]; exact new_at hszD.symm
    simp [World.cell?, h]
  have hbw0 : Below w.heap.size w W0 := hbWD.trans (hb0.mono (by omega))
  have hr0 : Boxed W0 (w.heap.size + 1) 24 (.slice none 0 0) := (hb0.block _ (by omega)).trans hrD
  have hd0 := (hb0.block w.heap.size (by omega)).trans hdD
  rw [hW0]
  have HC := hid (And.intro hbw0 (And.intro hm (And.intro hd0 hr0)))
  clear hlk hM hMD hdD hrD d0 d1 d2 d3 hb0 hWD hbWD hszD hm hW0 hd0
  have hro : Fence.wide.round = none := rfl
  refine wpIn_rangeFunc_ownF hro (by omega : 1 ≤ 3) (gf := 39) (lb := #[.pointer (some ⟨w.heap.size + 2, 0, none⟩)]) rfl trivial (enters_of Try.func39 (by kernel_rfl) rfl)
    (backward_stops Fence.wide (3 - 1) trivial rfl (by omega) (w.heap.size + 2) (w.heap.size + 3) (.slice ao cn cc) w zs hlen W0 (by omega) (by omega) hx0 ((ItemsAt.below hbw0 hZ).up (by omega)))
    belowK_t (belowK_b (by omega)) (Below.refl _ _) (fun _ => rfl)
    (fun pre W => (∀ x ∈ pre, ledOf s p q m x.1.2.2 = none) ∧ Below (w.heap.size + 3) W0 W)
    (fun c pre W => c = .ret ∧ ∃ t v, pre.findSome? (fun x => ledOf s p q m x.1.2.2) = some t ∧ Boxed W (w.heap.size + 1) 24 v ∧ W.ownsRow w.heap.size 5 1 v t.length (byteCells t) ∧ Below w.heap.size w W)
    (OwnFrom.and (ownFrom_pure _ _) (ownFrom_below (by omega) (by omega)))
    (fun c pre W W' row ⟨h1, t, v, h2, h3, h4, h5⟩ hg hr => ⟨h1, t, v, h2, h3.kept hg (fun e => by obtain ⟨hB, o, ho, hc⟩ := hr _ e.symm; rw [show W.heap[_]? = _ from h3] at ho; cases ho; cases hc), ownsRow_kept h4 hg (fun r e => (hr r e).2), h5.grown hg h5.size (fun k e => by have := (hr k e).1; omega)⟩)
    ⟨fun x hx => (by cases hx), Below.refl _ _⟩
    (fun x => { tmps := #[.map (some r), .agg #[.int .u32 s, .int .u64 p, .int .u64 q, .slice (some am) n cm], .int .i64 k, undef, .pointer (some ⟨w.heap.size, 0, none⟩), undef, .pointer (some ⟨w.heap.size + 1, 0, none⟩), undef, x.1.2.1, undef, undef, .map (some r), .pointer (some ⟨w.heap.size, 0, none⟩), .int .u32 s, .int .i64 k, .agg #[.int .u32 s, .int .i64 k], .slice ao cn cc, .func (.func 39) #[] #[.pointer (some ⟨w.heap.size + 2, 0, none⟩)], .int .i64 x.1.1, x.1.2.1, undef, undef, undef, undef, undef, undef, undef, undef, undef], defers := [] }) ?assign ?body ?done ?stop
  case assign =>
    intro l x W K hK
    gi_wp2
    exact hK
  case body =>
    rintro l pre ⟨⟨i0, c0, y0⟩, hx⟩ W ⟨hpre, hB⟩ hlt
    dsimp only at hx
    have hx' := hx
    obtain ⟨hne, hrow, hy5, hy4⟩ := hx'
    dsimp only
    have hbW : Below w.heap.size w W := hbw0.trans (hB.mono (by omega))
    have hszW : w.heap.size + 3 ≤ W.heap.size := by have := hB.size; omega
    obtain ⟨d0, d1, d2, d3, -⟩ := blk_four ((hB.block w.heap.size (by omega)).trans HC.out.2.2.1)
    have hres : Boxed W (w.heap.size + 1) 24 (.slice none 0 0) := (hB.block _ (by omega)).trans hr0
    have hrc := hres.cell
    have hrf := hres.frozen
    have HA := hid (dApply_any (U8 w) G c0 y0 m s p q am n cm W (BytesAt.below hrow hbW) (BytesAt.below HC.out.2.1 hbW) hy5 (by omega) hml hp hq)
    unfold dval at HA
    obtain ⟨⟨D, C⟩, hDC⟩ : ∃ r, Fr.applyIn y0 s p q m = r := ⟨_, rfl⟩
    rw [hDC] at HA
    have hled : ledOf s p q m y0 = if C = 0 then some D else none := by unfold ledOf Fr.okOf; rw [hDC]
    have HW := hid (And.intro hbW (And.intro hres hled))
    have HBB := hid (And.intro hB hpre)
    clear hrow hbW hres hDC hled hB
    by_cases hC : C = 0
    · subst hC
      gi_wp2_with (refine ⟨trivial, ?_⟩; gi_at_call 28; refine (CallsIn.inRound l (callsIn_wide.2 HA.out)).mono ?_; rintro e W1 h1; obtain ⟨a1, c1, rfl, ho1, hb1⟩ := h1.ok; have hr1 : Boxed W1 (w.heap.size + 1) 24 (.slice none 0 0) := (hb1.block _ (by omega)).trans HW.out.2.1; have hrc1 := hr1.cell; have hrf1 := hr1.frozen; have H1 := hid (And.intro ho1 (And.intro hb1 hr1)); clear ho1 hb1 hr1)
      have hbs : (W1.setCell ⟨w.heap.size + 1, 0, none⟩ (.slice a1 D.length c1)).heap[w.heap.size + 1]? = some (.cells #[.slice a1 D.length c1] 24 (0, 0)) := one_setD H1.out.2.2 _
      refine ⟨(keeps_below H1.out.2.1).trans (KeepsOthers.setCell _ _ _), rfl, D, _, ?_, hbs, ?_, (HW.out.1.trans (H1.out.2.1.mono HW.out.1.size)).setCell (by show w.heap.size ≤ w.heap.size + 1; omega) _⟩
      · rw [findSome_snoc _ _ _ HBB.out.2]
        show ledOf s p q m y0 = some D
        rw [HW.out.2.2]
        simp
      · refine ownsRow_setCell_other (own_mono H1.out.1 (by omega)) ?_ _
        intro e
        obtain ⟨hge, -⟩ := own_block H1.out.1 _ e
        dsimp only at hge
        omega
    · gi_wp2_with (refine ⟨trivial, ?_⟩; gi_at_call 28; refine (CallsIn.inRound l (callsIn_wide.2 HA.out)).mono ?_; rintro e W1 h1; obtain ⟨t1, x1, rfl, hb1⟩ := h1.no hC; have H1 := hid hb1; clear hb1)
      refine ⟨keeps_below H1.out, H1.out.mono (by omega), ?_, HBB.out.1.trans (H1.out.mono (by omega))⟩
      intro x hx
      rcases List.mem_append.1 hx with h | h
      · exact HBB.out.2 x h
      · obtain rfl := List.mem_singleton.1 h
        show ledOf s p q m y0 = none
        rw [HW.out.2.2, if_neg hC]
  case done =>
    rintro D ys W hD rfl ⟨hpre, hB⟩ hK
    have hres : Boxed W (w.heap.size + 1) 24 (.slice none 0 0) := (hB.block _ (by omega)).trans hr0
    have hrc := hres.cell
    have hrf := hres.frozen
    gi_wp2
    have hK' := (KeepsOthers.setCell W ⟨w.heap.size + 1, 0, none⟩ (.slice none 0 0)).same D _ hK rfl
    refine ⟨by simp, .inl ⟨_, _, rfl, run_takeDeferred hK', ?_⟩⟩
    have hc0 : (W.setCell ⟨w.heap.size + 1, 0, none⟩ (.slice none 0 0)).cell? ⟨w.heap.size + 1, 0, none⟩ = some (.slice none 0 0) := (one_cellD (one_setD hres _)).1
    have hc1 : ((W.setCell ⟨w.heap.size + 1, 0, none⟩ (.slice none 0 0)).putObj D (.deferred none)).cell? ⟨w.heap.size + 1, 0, none⟩ = some (.slice none 0 0) := cell_kept hc0 (grownBy_putObj' _ D (.deferred none)) (fun r e => by cases e; exact ⟨_, hK', rfl⟩)
    have hbW : Below w.heap.size w (W.setCell ⟨w.heap.size + 1, 0, none⟩ (.slice none 0 0)) := (hbw0.trans (hB.mono (by omega))).setCell (by show w.heap.size ≤ w.heap.size + 1; omega) _
    refine ⟨.slice none 0 0, by simp [results, Try.results15, go_sem, hc1], ?_⟩
    have hn : ys.findSome? (fun x => ledOf s p q m x.1.2.2) = none := List.findSome?_eq_none_iff.2 hpre
    rw [hn]
    exact ⟨hbW.trans (belowK_b (w := W0) (by omega) _ D _ _ hD hK' rfl rfl), rfl⟩
  case stop =>
    rintro D c pre W hD hpf ⟨rfl, t, v, ht, hbx, hown, hbel⟩ hK
    gi_wp2
    refine ⟨by simp, .inl ⟨_, _, rfl, run_takeDeferred hK, ?_⟩⟩
    have hc1 : (W.putObj D (.deferred none)).cell? ⟨w.heap.size + 1, 0, none⟩ = some v := cell_kept hbx.cell (grownBy_putObj' _ D (.deferred none)) (fun r e => by cases e; exact ⟨_, hK, rfl⟩)
    obtain ⟨av, cv, rfl⟩ := own_slice hown
    refine ⟨.slice av t.length cv, by simp [results, Try.results15, go_sem, hc1], ?_⟩
    obtain ⟨rest, hrest⟩ := hpf
    have hn : zs.findSome? (fun x => ledOf s p q m x.1.2.2) = some t := by
      rw [← hrest, List.findSome?_append, ht]
      rfl
    rw [hn]
    exact ⟨hbel.trans (belowK_b (w := W0) (by omega) _ D _ _ hD hK rfl rfl), _, rfl, ownsRow_kept hown (grownBy_putObj' _ D (.deferred none)) (fun r e => by cases e; exact ⟨_, hK, rfl⟩)⟩

end Go.Proofs.Ytfldcmdhneegmaa
