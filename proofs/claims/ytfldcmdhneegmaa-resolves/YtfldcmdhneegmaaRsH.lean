/-
  package chain's WALK of statesOf.
-/
import Derived.Test.YtfldcmdhneegmaaRsG
namespace Go.Proofs.Ytfldcmdhneegmaa
open Go.RowKit Go.Lib Go.Shelf

/-- A row's states, as Backward hands them out. -/
theorem items_of {base : Nat} {w : World} {v : Value} {ps : List (Value × List UInt8)} (h : StsAt base w v ps) : ∃ zs : List (Item w), zs.length = ps.length ∧ ItemsAt w.heap.size w w v zs ∧ ∀ g : List UInt8 → Option (List UInt8), zs.findSome? (fun x => g x.1.2.2) = ps.reverse.findSome? (fun p => g p.2) := by
  obtain ⟨hown, hst⟩ := h
  have hst' : ∀ p ∈ ps.reverse, StAt w p.1 p.2 := fun p hp => hst p (List.mem_reverse.1 hp)
  have hz : ∀ (qs : List (Value × List UInt8)) (hq : ∀ p ∈ qs, StAt w p.1 p.2), ∃ zs : List (Item w), zs.length = qs.length ∧ (∀ j (hj : j < zs.length) (hq' : j < qs.length), zs[j].1.1 + j + 1 = qs.length ∧ zs[j].1.2 = qs[j]) ∧ ∀ g : List UInt8 → Option (List UInt8), zs.findSome? (fun x => g x.1.2.2) = qs.findSome? (fun p => g p.2) := by
    intro qs
    induction qs with
    | nil => intro _; exact ⟨[], rfl, fun j hj => by simp at hj, fun g => rfl⟩
    | cons p r ih =>
      intro hq
      obtain ⟨zs, h1, h2, h3⟩ := ih (fun p' hp' => hq p' (List.mem_cons_of_mem _ hp'))
      refine ⟨⟨(r.length, p.1, p.2), hq p (List.mem_cons_self ..)⟩ :: zs, by simp [h1], fun j hj hq' => ?_, fun g => ?_⟩
      · cases j with
        | zero => simp
        | succ j =>
          obtain ⟨e1, e2⟩ := h2 j (by simpa using hj) (by simpa using hq')
          simp only [List.getElem_cons_succ, List.length_cons]
          exact ⟨by omega, e2⟩
      · simp only [List.findSome?_cons]
        rw [h3 g]
  obtain ⟨zs, h1, h2, h3⟩ := hz ps.reverse hst'
  have hlr : ps.reverse.length = ps.length := List.length_reverse
  refine ⟨zs, by omega, ?_, h3⟩
  rcases hown.2 with ⟨rfl, h0⟩ | ⟨g, cap, cur, rfl, hbase, hblk, hn, hmax, hcur, htake⟩
  · exact .inl ⟨rfl, List.eq_nil_of_length_eq_zero (by omega)⟩
  · refine .inr ⟨g, 0, cap, by rw [h1, hlr], lt_of_block hblk, fun j hj => ?_⟩
    obtain ⟨e1, e2⟩ := h2 j hj (by omega)
    refine ⟨by omega, ?_⟩
    have hi : zs[j].1.1 < ps.length := by omega
    have e3 : ps.reverse[j]'(by omega) = ps[zs[j].1.1] := by
      rw [List.getElem_reverse]
      congr 1
      omega
    have e4 : cur[zs[j].1.1]? = some zs[j].1.2.1 := by
      have h5 : cur.toList[zs[j].1.1]? = (ps.map (·.1))[zs[j].1.1]? := by
        rw [← htake, List.getElem?_take_of_lt (by omega)]
      rw [Array.getElem?_toList] at h5
      rw [h5, e2, e3]
      simp [hi]
    simp only [Nat.zero_add]
    simp [World.cell?, hblk, e4]

theorem led_keep {base r : Nat} {M : Nat → Nat → List (Value × List UInt8)} {w : World} (hK : KeepAt base w r M) (s p q k : Nat) (am : Addr) (n cm : Nat) (m : List UInt8) (G : Nat → Prop) (hlen : (M s k).length ≤ 1000)
    (hm : BytesAt G w (.slice (some am) n cm) m) (hml : m.length ≤ 100000) (hp : p < 18446744073709551616) (hq : q < 18446744073709551616) :
    Calls Try.prog 15 #[.map (some r), dval s p q (.slice (some am) n cm), .int .i64 k] w (LedEnd ((M s k).reverse.findSome? fun y => ledOf s p q m y.2) w) := by
  obtain ⟨l, h1, h2, -⟩ := hK
  obtain ⟨zs, e1, e2, e3⟩ := items_of (h2 s k)
  have := led_any r l s p q k am n cm m G w zs h1 e2 (by omega) hm hml hp hq
  rw [e3 (fun x => ledOf s p q m x)] at this
  exact this
theorem own_u8 {w : World} {base : Nat} {v : Value} {t : List UInt8} (h : w.ownsRow base 5 1 v t.length (byteCells t)) : BytesAt (U8 w) w v t := by
  have h0 := RowAt.ofOwn h
  refine ⟨h0.1, ?_⟩
  rcases h0.2 with h2 | ⟨b, o, cap, hv, hF, hb, r⟩
  · exact Or.inl h2
  · refine Or.inr ⟨b, o, cap, hv, ?_, hb, r⟩
    obtain ⟨-, c, fz, hh⟩ := own_block h b (by rw [hv]; rfl)
    exact ⟨c, fz, hh⟩
/-- What led answers, as it is kept. -/
theorem LedEnd.cell {o : Option (List UInt8)} {w w' : World} {e : Ending} (h : LedEnd o w e w') (hb : ∀ t, o = some t → 5 ≤ t.length ∧ t.length ≤ 400000) : ∃ (a : Option Addr) (n c : Nat) (fk : Option (Value × List UInt8)), e = .returned (.slice a n c) ∧ cellO fk = .slice a n c ∧ fk.map (·.2) = o ∧ (∀ c x, fk = some (c, x) → StAt w' c x) ∧ Below w.heap.size w w' := by
  obtain ⟨h1, h2⟩ := h
  cases o with
  | none => exact ⟨none, 0, 0, none, h2, rfl, rfl, fun _ _ h => (by cases h), h1⟩
  | some t =>
    obtain ⟨v, he, ho⟩ := h2
    obtain ⟨a, c, rfl⟩ := own_slice ho
    obtain ⟨b5, b4⟩ := hb t rfl
    refine ⟨a, t.length, c, some (.slice a t.length c, t), he, rfl, rfl, fun c' x hx => ?_, h1⟩
    cases hx
    refine ⟨fun e => ?_, ?_, b5, b4⟩
    · injection e with h1 h2 h3
      omega
    · exact own_u8 ho

/-- The states for which a frame stands, within 0, 1, .. deltas, by what is kept. -/
def stOf (L : Nat → Nat → List (List UInt8)) (f : List UInt8) (k : Nat) : Option (List UInt8) :=
  if (Fr.sound f 83).isSome = true then some f
  else match Fr.parts f with
    | none => none
    | some (sl, p, q, m) => match k with
      | 0 => none
      | k + 1 => (L (Fr.val sl) k).reverse.findSome? (ledOf (Fr.val sl) p q m)
def plainM (M : Nat → Nat → List (Value × List UInt8)) : Nat → Nat → List (List UInt8) := fun s k => (M s k).map (·.2)
theorem findSome_plain (ps : List (Value × List UInt8)) (g : List UInt8 → Option (List UInt8)) : ps.reverse.findSome? (fun p => g p.2) = (ps.map (·.2)).reverse.findSome? g := by
  rw [← List.map_reverse, List.findSome?_map]
  rfl

/-- What statesOf answers. -/
def StatesEnd (so : Nat → Option (List UInt8)) (w : World) (e : Ending) (w' : World) : Prop :=
  Below w.heap.size w w' ∧ ∃ fo : Nat → Option (Value × List UInt8), e = .returned (.agg #[cellO (fo 0), cellO (fo 1), cellO (fo 2), cellO (fo 3), cellO (fo 4)]) ∧ (∀ k, k < 5 → (fo k).map (·.2) = so k) ∧ ∀ k c x, k < 5 → fo k = some (c, x) → StAt w' c x
theorem blk_five {w : World} {b : Nat} {x y z u v : Value} {t : TypeId} (h : w.heap[b]? = some (.cells #[x, y, z, u, v] t (0, 0))) : w.cell? ⟨b, 0, none⟩ = some x ∧ w.cell? ⟨b, 1, none⟩ = some y ∧ w.cell? ⟨b, 2, none⟩ = some z ∧ w.cell? ⟨b, 3, none⟩ = some u ∧ w.cell? ⟨b, 4, none⟩ = some v ∧ ∀ i, w.frozen? ⟨b, i, none⟩ = false := by
  simp [World.cell?, World.frozen?, h]
theorem set_five {w : World} {b : Nat} {x y z u v : Value} {t : TypeId} (h : w.heap[b]? = some (.cells #[x, y, z, u, v] t (0, 0))) (n : Value) :
    (w.setCell ⟨b, 0, none⟩ n).heap[b]? = some (.cells #[n, y, z, u, v] t (0, 0)) ∧ (w.setCell ⟨b, 1, none⟩ n).heap[b]? = some (.cells #[x, n, z, u, v] t (0, 0)) ∧ (w.setCell ⟨b, 2, none⟩ n).heap[b]? = some (.cells #[x, y, n, u, v] t (0, 0)) ∧ (w.setCell ⟨b, 3, none⟩ n).heap[b]? = some (.cells #[x, y, z, n, v] t (0, 0)) ∧ (w.setCell ⟨b, 4, none⟩ n).heap[b]? = some (.cells #[x, y, z, u, n] t (0, 0)) := by
  have hlt := lt_of_block h
  have h' : w.heap[b] = .cells #[x, y, z, u, v] t (0, 0) := by simpa [Array.getElem?_eq_getElem hlt] using h
  refine ⟨?_, ?_, ?_, ?_, ?_⟩
  all_goals
    show (w.heap.modify b _)[b]? = _
    rw [Array.getElem?_eq_getElem (by simpa using hlt), Array.getElem_modify_self, h']
    rfl
/-- Five stores into one block. -/
def five (w : World) (b : Nat) (x y z u v : Value) : World := ((((w.setCell ⟨b, 0, none⟩ x).setCell ⟨b, 1, none⟩ y).setCell ⟨b, 2, none⟩ z).setCell ⟨b, 3, none⟩ u).setCell ⟨b, 4, none⟩ v
theorem five_at {w : World} {b : Nat} {x y z u v : Value} {t : TypeId} (h : w.heap[b]? = some (.cells #[x, y, z, u, v] t (0, 0))) (x' y' z' u' v' : Value) : (five w b x' y' z' u' v').heap[b]? = some (.cells #[x', y', z', u', v'] t (0, 0)) :=
  (set_five (set_five (set_five (set_five (set_five h x').1 y').2.1 z').2.2.1 u').2.2.2.1 v').2.2.2.2
theorem five_but (w : World) (b : Nat) (x y z u v : Value) : But b w (five w b x y z u v) := ((((but_set w b 0 x).trans (but_set _ b 1 y)).trans (but_set _ b 2 z)).trans (but_set _ b 3 u)).trans (but_set _ b 4 v)
theorem five_below {B b : Nat} {a w : World} (h : Below B a w) (hb : B ≤ b) (x y z u v : Value) : Below B a (five w b x y z u v) := ((((h.setCell hb _).setCell hb _).setCell hb _).setCell hb _).setCell hb _

theorem parts_lenR {d sl m : List UInt8} {p q : Nat} (h : Fr.parts d = some (sl, p, q, m)) : m.length ≤ d.length := by
  rw [(Fr.parts_back h).1]
  unfold Fr.framed
  simp
  omega
theorem KeepAt.set {base : Nat} {w : World} {r : Nat} {M : Nat → Nat → List (Value × List UInt8)} {b : Nat} {cs : Array Value} {t : TypeId} {fz : Nat × Nat} (h : KeepAt base w r M) (hb : w.heap[b]? = some (.cells cs t fz)) (h1 : t ≠ 24) (h2 : t ≠ 5) (i : Nat) (v : Value) : KeepAt base (w.setCell ⟨b, i, none⟩ v) r M := by
  obtain ⟨l, hM, hS, hd⟩ := h
  have hg := but_set w b i v
  refine ⟨l, hM.on (hg.block r hM.lt (fun e => by
    injection e with e
    obtain ⟨es, clock, hm, -⟩ := hM
    rw [e, hb] at hm
    cases hm)), fun s k => ⟨own_grown_other (hS s k).1 hg ?_, fun p hp => ((hS s k).2 p hp).grown hg (fun j e hu => ?_)⟩, hd⟩
  · cases hv : (valE s k l).ownBlock with
    | none => exact Or.inl rfl
    | some g =>
      right
      intro e
      injection e with e
      obtain ⟨-, c, fz', hh⟩ := own_block (hS s k).1 g hv
      rw [e, hb] at hh
      cases hh
      exact h1 rfl
  · injection e with e
    subst e
    obtain ⟨c, fz', hh⟩ := hu
    rw [hb] at hh
    cases hh
    exact h2 rfl
/-- What statesOf sees as it goes on. -/
structure StCtx (base r : Nat) (M : Nat → Nat → List (Value × List UInt8)) (w : World) (DB S p q : Nat) (am : Addr) (n cm : Nat) (m : List UInt8) (W : World) (x0 x1 x2 x3 x4 : Value) : Prop where
  keep : KeepAt base W r M
  bel : Below w.heap.size w W
  out : W.heap[w.heap.size + 1]? = some (.cells #[x0, x1, x2, x3, x4] 35 (0, 0))
  res : W.heap[w.heap.size]? = some (.cells #[.slice none 0 0, .slice none 0 0, .slice none 0 0, .slice none 0 0, .slice none 0 0] 35 (0, 0))
  d : W.heap[DB]? = some (.cells #[.int .u32 S, .int .u64 p, .int .u64 q, .slice (some am) n cm] 49 (0, 0))
  mid : BytesAt (U8 w) W (.slice (some am) n cm) m
  gt : w.heap.size + 1 < DB
theorem StCtx.start {base r : Nat} {M : Nat → Nat → List (Value × List UInt8)} {w w3 W3 : World} {S p q : Nat} {am : Addr} {n cm : Nat} {m : List UInt8} {x0 x1 x2 x3 x4 : Value} (hK : KeepAt base w r M) (hW : w3.alloc (.cells #[.int .u32 S, .int .u64 p, .int .u64 q, .slice (some am) n cm] 49) = W3) (hb : Below w.heap.size w w3) (ho : w3.heap[w.heap.size + 1]? = some (.cells #[x0, x1, x2, x3, x4] 35 (0, 0))) (hr : w3.heap[w.heap.size]? = some (.cells #[.slice none 0 0, .slice none 0 0, .slice none 0 0, .slice none 0 0, .slice none 0 0] 35 (0, 0))) (hm : BytesAt (U8 w) w3 (.slice (some am) n cm) m) : StCtx base r M w w3.heap.size S p q am n cm m W3 x0 x1 x2 x3 x4 := by
  subst hW
  exact ⟨hK.below (hb.alloc hb.size _), hb.alloc hb.size _, (Below.heap_alloc _ _ _ (lt_of_block ho)).trans ho, (Below.heap_alloc _ _ _ (lt_of_block hr)).trans hr, heap_alloc_new _ _, hm.below ((Below.refl _ _).alloc (Nat.le_refl _) _), lt_of_block ho⟩
theorem StCtx.on {base r : Nat} {M : Nat → Nat → List (Value × List UInt8)} {w W W' : World} {DB S p q : Nat} {am : Addr} {n cm : Nat} {m : List UInt8} {x0 x1 x2 x3 x4 : Value} (h : StCtx base r M w DB S p q am n cm m W x0 x1 x2 x3 x4) (hb : Below W.heap.size W W') : StCtx base r M w DB S p q am n cm m W' x0 x1 x2 x3 x4 :=
  ⟨h.keep.below hb, h.bel.trans (hb.mono h.bel.size), (hb.block _ (lt_of_block h.out)).trans h.out, (hb.block _ (lt_of_block h.res)).trans h.res, (hb.block _ (lt_of_block h.d)).trans h.d, h.mid.below hb, h.gt⟩
theorem StCtx.put {base r : Nat} {M : Nat → Nat → List (Value × List UInt8)} {w W : World} {DB S p q : Nat} {am : Addr} {n cm : Nat} {m : List UInt8} {x0 x1 x2 x3 x4 y0 y1 y2 y3 y4 : Value} (h : StCtx base r M w DB S p q am n cm m W x0 x1 x2 x3 x4) (i : Nat) (v : Value) (ho : (W.setCell ⟨w.heap.size + 1, i, none⟩ v).heap[w.heap.size + 1]? = some (.cells #[y0, y1, y2, y3, y4] 35 (0, 0))) : StCtx base r M w DB S p q am n cm m (W.setCell ⟨w.heap.size + 1, i, none⟩ v) y0 y1 y2 y3 y4 :=
  have hg := but_set W (w.heap.size + 1) i v
  ⟨h.keep.set h.out (by decide) (by decide) i v, h.bel.setCell (by show w.heap.size ≤ w.heap.size + 1; omega) v, ho, (hg.block _ (lt_of_block h.res) (by intro e; injection e with e; omega)).trans h.res, (hg.block _ (lt_of_block h.d) (by intro e; injection e with e; have := h.gt; omega)).trans h.d, BytesAt.but h.mid hg (fun ⟨c, fz, hu⟩ => by have := lt_of_block hu; omega), h.gt⟩
/-- A state that was found, or none. -/
def StO (W : World) (f : Option (Value × List UInt8)) : Prop := ∀ c x, f = some (c, x) → StAt W c x
theorem StO.on {W W' : World} {f : Option (Value × List UInt8)} (h : StO W f) (hb : Below W.heap.size W W') : StO W' f := fun c x hf => (h c x hf).below hb
theorem StO.put {W : World} {f : Option (Value × List UInt8)} (h : StO W f) {b : Nat} {cs : Array Value} {t : TypeId} {fz : Nat × Nat} (hb : W.heap[b]? = some (.cells cs t fz)) (h2 : t ≠ 5) (i : Nat) (v : Value) : StO (W.setCell ⟨b, i, none⟩ v) f := fun c x hf => (h c x hf).grown (but_set W b i v) (fun j e hu => by
  injection e with e
  subst e
  obtain ⟨c, fz', hh⟩ := hu
  rw [hb] at hh
  cases hh
  exact h2 rfl)

theorem StO.five {W : World} {f : Option (Value × List UInt8)} (h : StO W f) {b : Nat} {x y z u v : Value} {t : TypeId} (hb : W.heap[b]? = some (.cells #[x, y, z, u, v] t (0, 0))) (h2 : t ≠ 5) (x' y' z' u' v' : Value) : StO (five W b x' y' z' u' v') f := by
  have s1 := (set_five hb x').1
  have s2 := (set_five s1 y').2.1
  have s3 := (set_five s2 z').2.2.1
  have s4 := (set_five s3 u').2.2.2.1
  exact ((((h.put hb h2 0 x').put s1 h2 1 y').put s2 h2 2 z').put s3 h2 3 u').put s4 h2 4 v'

set_option maxHeartbeats 4000000 in
set_option maxRecDepth 1000000 in
theorem statesOf_any (base r : Nat) (M : Nat → Nat → List (Value × List UInt8)) (vf : Value) (f : List UInt8) (w : World) (hK : KeepAt base w r M) (hv : BytesAt (U8 w) w vf f) (hn : vf ≠ .slice none 0 0) (hl : f.length ≤ 65536) (hlen : ∀ s k, (M s k).length ≤ 1000) (hb : ∀ k t, k < 5 → stOf (plainM M) f k = some t → 5 ≤ t.length ∧ t.length ≤ 400000) :
    Calls Try.prog 8 #[.map (some r), vf] w (StatesEnd (stOf (plainM M) f) w) := by
  obtain ⟨af, nf, qf, rfl⟩ := BytesAt.isSlice hv hn
  obtain ⟨W2, hW2⟩ : ∃ W, (w.alloc (.cells #[.slice none 0 0, .slice none 0 0, .slice none 0 0, .slice none 0 0, .slice none 0 0] 35)).alloc (.cells #[.slice none 0 0, .slice none 0 0, .slice none 0 0, .slice none 0 0, .slice none 0 0] 35) = W := ⟨_, rfl⟩
  have hb2 : Below w.heap.size w W2 := by rw [← hW2]; exact ((Below.refl _ _).alloc (Nat.le_refl _) _).alloc (by simp) _
  have hsz2 : W2.heap.size = w.heap.size + 2 := by rw [← hW2]; simp
  have kA : W2.heap[w.heap.size]? = some (.cells #[.slice none 0 0, .slice none 0 0, .slice none 0 0, .slice none 0 0, .slice none 0 0] 35 (0, 0)) := by rw [← hW2]; exact (Below.heap_alloc _ _ _ (by simp)).trans (heap_alloc_new w _)
  have kB : W2.heap[w.heap.size + 1]? = some (.cells #[.slice none 0 0, .slice none 0 0, .slice none 0 0, .slice none 0 0, .slice none 0 0] 35 (0, 0)) := by rw [← hW2]; exact new_at (by simp)
  have HC := hid (fCheckS_any (U8 w) _ f W2 (hv.below hb2) (by omega))
  by_cases hso : (Fr.sound f 83).isSome = true
  · have h5 := sound_four hso
    have hst : StAt w (.slice (some af) nf qf) f := ⟨hn, hv, h5, by omega⟩
    have e1 : ∀ k, stOf (plainM M) f k = some f := fun k => by unfold stOf; rw [if_pos hso]
    have HX := hid (And.intro hst (And.intro e1 (And.intro hso (And.intro hb2 (And.intro kA kB)))))
    clear hK hv hn hlen hb hst e1 hso hb2 kA kB
    go_enter Try.func8, Try.ntmps8
    go_wp2_with (go_at_call 13; refine HC.out.mono ?_; rintro e w1 ⟨hb1, he, -⟩; obtain rfl := he HX.out.2.2.1; have j1 := (hb1.block (w.heap.size + 1) (by omega)).trans HX.out.2.2.2.2.2; have j0 := (hb1.block w.heap.size (by omega)).trans HX.out.2.2.2.2.1; obtain ⟨c0, c1, c2, c3, c4, cz⟩ := blk_five j1; obtain ⟨d0, d1, d2, d3, d4, dz⟩ := blk_five j0; have H1 := hid (And.intro hb1 (And.intro j0 j1)); clear hb1 he j0 j1)
    refine wp_loop_rounds 6 ?_
    rw [rounds_succ]
    go_wp2
    rw [rounds_succ]
    go_wp2
    rw [rounds_succ]
    go_wp2
    rw [rounds_succ]
    go_wp2
    rw [rounds_succ]
    go_wp2
    rw [rounds_succ]
    go_wp2
    have jA := ((five_but w1 (w.heap.size + 1) (.slice (some af) nf qf) (.slice (some af) nf qf) (.slice (some af) nf qf) (.slice (some af) nf qf) (.slice (some af) nf qf)).block w.heap.size (lt_of_block H1.out.2.1) (by intro e; injection e with e; omega)).trans H1.out.2.1
    have hfin := five_at jA (.slice (some af) nf qf) (.slice (some af) nf qf) (.slice (some af) nf qf) (.slice (some af) nf qf) (.slice (some af) nf qf)
    have hbw1 : Below w.heap.size w w1 := HX.out.2.2.2.1.trans (H1.out.1.mono (by omega))
    have hbf := five_below (five_below hbw1 (by omega : w.heap.size ≤ w.heap.size + 1) (.slice (some af) nf qf) (.slice (some af) nf qf) (.slice (some af) nf qf) (.slice (some af) nf qf) (.slice (some af) nf qf)) (Nat.le_refl _) (.slice (some af) nf qf) (.slice (some af) nf qf) (.slice (some af) nf qf) (.slice (some af) nf qf) (.slice (some af) nf qf)
    unfold five at hfin hbf
    obtain ⟨g0, g1, g2, g3, g4, -⟩ := blk_five hfin
    refine bodyPost_ret (v := .agg #[.slice (some af) nf qf, .slice (some af) nf qf, .slice (some af) nf qf, .slice (some af) nf qf, .slice (some af) nf qf]) (by simp [results, Try.results8, go_sem, g0, g1, g2, g3, g4]) rfl ?_
    exact ⟨hbf, fun _ => some (.slice (some af) nf qf, f), rfl, fun k _ => (HX.out.2.1 k).symm, fun k c x _ h => by cases h; exact HX.out.1.below hbf⟩
  · have hso' : (Fr.sound f 83).isSome = false := by simpa using hso
    have HV := hid (And.intro hv (And.intro hb2 (And.intro kA (And.intro kB hso'))))
    cases hp : Fr.parts f with
    | none =>
      have e1 : ∀ k, stOf (plainM M) f k = none := fun k => by unfold stOf; rw [if_neg hso, hp]
      have HX := hid (And.intro e1 hp)
      clear hK hv hn hlen hb e1 hso hso' hb2 kA kB hp
      go_enter Try.func8, Try.ntmps8
      go_wp2_with (first
        | (go_at_call 13; refine HC.out.mono ?_; rintro e w1 ⟨hb1, -, he⟩; obtain ⟨n1, s1, rfl⟩ := he HV.out.2.2.2.2; have H1 := hid (And.intro hb1 (HV.out.2.1.trans (hb1.mono (by omega)))); clear hb1 he)
        | (go_at_call 14; refine (opened_any (U8 w) _ f _ (HV.out.1.below H1.out.2) (fun i h => by obtain ⟨c, fz, hc⟩ := h; have := lt_of_block hc; have := H1.out.2.size; omega) (by omega)).mono ?_; rintro e w3 ⟨hb3, he⟩; rw [HX.out.2] at he; obtain ⟨n3, s3, rfl⟩ := he; have hbx : Below (w.heap.size + 2) W2 w3 := (H1.out.1.mono (by omega)).trans (hb3.mono (by have := H1.out.1.size; omega)); have j1 := (hbx.block (w.heap.size + 1) (by omega)).trans HV.out.2.2.2.1; have j0 := (hbx.block w.heap.size (by omega)).trans HV.out.2.2.1; have hlt3 : w.heap.size + 1 < w3.heap.size := lt_of_block j1; have hlt3' : w.heap.size < w3.heap.size := lt_of_block j0; obtain ⟨c0, c1, c2, c3, c4, cz⟩ := blk_five j1; obtain ⟨d0, d1, d2, d3, d4, dz⟩ := blk_five j0; have H3 := hid (And.intro (H1.out.2.trans (hb3.mono H1.out.2.size)) (And.intro j0 j1)); clear hb3 hbx j0 j1; unfold dval))
      have hfin0 := five_at H3.out.2.1 (.slice none 0 0) (.slice none 0 0) (.slice none 0 0) (.slice none 0 0) (.slice none 0 0)
      have hfin := (Below.heap_alloc _ (.cells #[.int .u32 0, .int .u64 0, .int .u64 0, .slice none 0 0] 49) _ (lt_of_block hfin0)).trans hfin0
      have hbf := (five_below H3.out.1 (Nat.le_refl _) (.slice none 0 0) (.slice none 0 0) (.slice none 0 0) (.slice none 0 0) (.slice none 0 0)).alloc (Nat.le_of_lt (lt_of_block hfin0)) (.cells #[.int .u32 0, .int .u64 0, .int .u64 0, .slice none 0 0] 49)
      unfold five at hfin hbf
      obtain ⟨g0, g1, g2, g3, g4, -⟩ := blk_five hfin
      refine bodyPost_ret (v := .agg #[.slice none 0 0, .slice none 0 0, .slice none 0 0, .slice none 0 0, .slice none 0 0]) (by simp [results, Try.results8, go_sem, g0, g1, g2, g3, g4]) rfl ?_
      exact ⟨hbf, fun _ => none, rfl, fun k _ => (HX.out.1 k).symm, fun k c x _ h => by cases h⟩
    | some y =>
      obtain ⟨sl, p, q, m⟩ := y
      obtain ⟨-, hsl, hp64, hq64⟩ := Fr.parts_back hp
      have hml := parts_lenR hp
      obtain ⟨S, hS⟩ : ∃ S, Fr.val sl = S := ⟨_, rfl⟩
      have e0 : stOf (plainM M) f 0 = none := by unfold stOf; rw [if_neg hso, hp]
      have ek : ∀ k, stOf (plainM M) f (k + 1) = (M S k).reverse.findSome? (fun y => ledOf S p q m y.2) := fun k => by
        unfold stOf
        rw [if_neg hso, hp]
        simp only []
        rw [hS, findSome_plain]
        rfl
      have HX := hid (And.intro e0 (And.intro ek (And.intro hp (And.intro hS (And.intro hb hlen)))))
      have HK := hid hK
      clear hK hv hn hlen hb e0 ek hso hso' hb2 kA kB hp hS
      go_enter Try.func8, Try.ntmps8
      go_wp2_with (first
        | (go_at_call 13; refine HC.out.mono ?_; rintro e w1 ⟨hb1, -, he⟩; obtain ⟨n1, s1, rfl⟩ := he HV.out.2.2.2.2; have H1 := hid (And.intro hb1 (HV.out.2.1.trans (hb1.mono (by omega)))); clear hb1 he)
        | (go_at_call 14; refine (opened_any (U8 w) _ f _ (HV.out.1.below H1.out.2) (fun i h => by obtain ⟨c, fz, hc⟩ := h; have := lt_of_block hc; have := H1.out.2.size; omega) (by omega)).mono ?_; rintro e w3 ⟨hb3, he⟩; rw [HX.out.2.2.1] at he; obtain ⟨am, n, cm, rfl, hm3⟩ := he; rw [HX.out.2.2.2.1]; obtain ⟨W3, hW3⟩ : ∃ W, w3.alloc (.cells #[.int .u32 S, .int .u64 p, .int .u64 q, .slice (some am) n cm] 49) = W := ⟨_, rfl⟩; have hbx : Below (w.heap.size + 2) W2 w3 := (H1.out.1.mono (by omega)).trans (hb3.mono (by have := H1.out.1.size; omega)); have K3 := hid (StCtx.start (w := w) HK.out hW3 (H1.out.2.trans (hb3.mono H1.out.2.size)) ((hbx.block (w.heap.size + 1) (by omega)).trans HV.out.2.2.2.1) ((hbx.block w.heap.size (by omega)).trans HV.out.2.2.1) hm3); have hnew : w3.heap.size < W3.heap.size := (by rw [← hW3]; simp); obtain ⟨c0, c1, c2, c3, c4, cz⟩ := blk_five K3.out.out; obtain ⟨x0, x1, x2, x3, -⟩ := blk_four K3.out.d; clear hb3 hbx hm3; unfold dval))
      have HL : Hid (∀ (k : Nat) (kk : Int) (W : World) (x0 x1 x2 x3 x4 : Value), kk = (k : Int) → StCtx base r M w w3.heap.size S p q am n cm m W x0 x1 x2 x3 x4 → Calls Try.prog 15 #[.map (some r), .agg #[.int .u32 S, .int .u64 p, .int .u64 q, .slice (some am) n cm], .int .i64 kk] W (LedEnd (stOf (plainM M) f (k + 1)) W)) := fun k kk W x0 x1 x2 x3 x4 hkk hc => by
        rw [hkk, HX.out.2.1 k]
        exact led_keep hc.keep S p q k am n cm m (U8 w) (HX.out.2.2.2.2.2 S k) hc.mid (by omega) hp64 hq64
      refine wp_loop_rounds 5 ?_
      rw [rounds_succ]
      go_wp2_with (go_at_call 15; refine (HL.out 0 0 _ _ _ _ _ _ (by rfl) K3.out).mono ?_; rintro e u1 h1; obtain ⟨a1, l1, q1, f1, rfl, hc1, hm1, hs1, hb1⟩ := h1.cell (fun t ht => HX.out.2.2.2.2.1 1 t (by omega) ht); have P1 := hid (K3.out.on hb1); obtain ⟨y10, y11, y12, y13, y14, y1z⟩ := blk_five P1.out.out; have Q1 := hid (P1.out.put 1 (.slice a1 l1 q1) (set_five P1.out.out _).2.1); obtain ⟨z10, z11, z12, z13, z14, z1z⟩ := blk_five Q1.out.out; obtain ⟨d10, d11, d12, d13, -⟩ := blk_four Q1.out.d; have S1_1 := hid (StO.put hs1 P1.out.out (by decide) 1 (.slice a1 l1 q1)); have F1 := hid (And.intro hc1 hm1); clear hs1 hc1 hm1 h1 hb1)
      rw [rounds_succ]
      go_wp2_with (go_at_call 15; refine (HL.out 1 1 _ _ _ _ _ _ (by rfl) Q1.out).mono ?_; rintro e u2 h2; obtain ⟨a2, l2, q2, f2, rfl, hc2, hm2, hs2, hb2⟩ := h2.cell (fun t ht => HX.out.2.2.2.2.1 2 t (by omega) ht); have P2 := hid (Q1.out.on hb2); obtain ⟨y20, y21, y22, y23, y24, y2z⟩ := blk_five P2.out.out; have Q2 := hid (P2.out.put 2 (.slice a2 l2 q2) (set_five P2.out.out _).2.2.1); obtain ⟨z20, z21, z22, z23, z24, z2z⟩ := blk_five Q2.out.out; obtain ⟨d20, d21, d22, d23, -⟩ := blk_four Q2.out.d; have S2_2 := hid (StO.put hs2 P2.out.out (by decide) 2 (.slice a2 l2 q2)); have S1_2 := hid ((S1_1.out.on hb2).put (Q1.out.on hb2).out (by decide) 2 (.slice a2 l2 q2)); have F2 := hid (And.intro hc2 hm2); clear hs2 hc2 hm2 h2 hb2)
      rw [rounds_succ]
      go_wp2_with (go_at_call 15; refine (HL.out 2 2 _ _ _ _ _ _ (by rfl) Q2.out).mono ?_; rintro e u3 h3; obtain ⟨a3, l3, q3, f3, rfl, hc3, hm3, hs3, hb3⟩ := h3.cell (fun t ht => HX.out.2.2.2.2.1 3 t (by omega) ht); have P3 := hid (Q2.out.on hb3); obtain ⟨y30, y31, y32, y33, y34, y3z⟩ := blk_five P3.out.out; have Q3 := hid (P3.out.put 3 (.slice a3 l3 q3) (set_five P3.out.out _).2.2.2.1); obtain ⟨z30, z31, z32, z33, z34, z3z⟩ := blk_five Q3.out.out; obtain ⟨d30, d31, d32, d33, -⟩ := blk_four Q3.out.d; have S3_3 := hid (StO.put hs3 P3.out.out (by decide) 3 (.slice a3 l3 q3)); have S1_3 := hid ((S1_2.out.on hb3).put (Q2.out.on hb3).out (by decide) 3 (.slice a3 l3 q3)); have S2_3 := hid ((S2_2.out.on hb3).put (Q2.out.on hb3).out (by decide) 3 (.slice a3 l3 q3)); have F3 := hid (And.intro hc3 hm3); clear hs3 hc3 hm3 h3 hb3)
      rw [rounds_succ]
      go_wp2_with (go_at_call 15; refine (HL.out 3 3 _ _ _ _ _ _ (by rfl) Q3.out).mono ?_; rintro e u4 h4; obtain ⟨a4, l4, q4, f4, rfl, hc4, hm4, hs4, hb4⟩ := h4.cell (fun t ht => HX.out.2.2.2.2.1 4 t (by omega) ht); have P4 := hid (Q3.out.on hb4); obtain ⟨y40, y41, y42, y43, y44, y4z⟩ := blk_five P4.out.out; have Q4 := hid (P4.out.put 4 (.slice a4 l4 q4) (set_five P4.out.out _).2.2.2.2); obtain ⟨z40, z41, z42, z43, z44, z4z⟩ := blk_five Q4.out.out; obtain ⟨d40, d41, d42, d43, -⟩ := blk_four Q4.out.d; have S4_4 := hid (StO.put hs4 P4.out.out (by decide) 4 (.slice a4 l4 q4)); have S1_4 := hid ((S1_3.out.on hb4).put (Q3.out.on hb4).out (by decide) 4 (.slice a4 l4 q4)); have S2_4 := hid ((S2_3.out.on hb4).put (Q3.out.on hb4).out (by decide) 4 (.slice a4 l4 q4)); have S3_4 := hid ((S3_3.out.on hb4).put (Q3.out.on hb4).out (by decide) 4 (.slice a4 l4 q4)); have F4 := hid (And.intro hc4 hm4); clear hs4 hc4 hm4 h4 hb4)
      obtain ⟨r0, r1, r2, r3, r4, rz⟩ := blk_five Q4.out.res
      rw [rounds_succ]
      go_wp2
      have hfin := five_at Q4.out.res (.slice none 0 0) (.slice a1 l1 q1) (.slice a2 l2 q2) (.slice a3 l3 q3) (.slice a4 l4 q4)
      have hbf := five_below Q4.out.bel (Nat.le_refl _) (.slice none 0 0) (.slice a1 l1 q1) (.slice a2 l2 q2) (.slice a3 l3 q3) (.slice a4 l4 q4)
      have T1 := StO.five S1_4.out Q4.out.res (by decide) (.slice none 0 0) (.slice a1 l1 q1) (.slice a2 l2 q2) (.slice a3 l3 q3) (.slice a4 l4 q4)
      have T2 := StO.five S2_4.out Q4.out.res (by decide) (.slice none 0 0) (.slice a1 l1 q1) (.slice a2 l2 q2) (.slice a3 l3 q3) (.slice a4 l4 q4)
      have T3 := StO.five S3_4.out Q4.out.res (by decide) (.slice none 0 0) (.slice a1 l1 q1) (.slice a2 l2 q2) (.slice a3 l3 q3) (.slice a4 l4 q4)
      have T4 := StO.five S4_4.out Q4.out.res (by decide) (.slice none 0 0) (.slice a1 l1 q1) (.slice a2 l2 q2) (.slice a3 l3 q3) (.slice a4 l4 q4)
      unfold five at hfin hbf T1 T2 T3 T4
      obtain ⟨g0, g1, g2, g3, g4, -⟩ := blk_five hfin
      refine bodyPost_ret (v := .agg #[.slice none 0 0, .slice a1 l1 q1, .slice a2 l2 q2, .slice a3 l3 q3, .slice a4 l4 q4]) (by simp [results, Try.results8, go_sem, g0, g1, g2, g3, g4]) rfl ?_
      refine ⟨hbf, fun k => match k with | 0 => none | 1 => f1 | 2 => f2 | 3 => f3 | _ => f4, ?_, ?_, ?_⟩
      · show _ = Ending.returned (.agg #[cellO none, cellO f1, cellO f2, cellO f3, cellO f4])
        rw [F1.out.1, F2.out.1, F3.out.1, F4.out.1]
        rfl
      · intro k hk
        rcases (by omega : k = 0 ∨ k = 1 ∨ k = 2 ∨ k = 3 ∨ k = 4) with rfl | rfl | rfl | rfl | rfl
        · exact HX.out.1.symm
        · exact F1.out.2
        · exact F2.out.2
        · exact F3.out.2
        · exact F4.out.2
      · intro k c x hk hf
        rcases (by omega : k = 0 ∨ k = 1 ∨ k = 2 ∨ k = 3 ∨ k = 4) with rfl | rfl | rfl | rfl | rfl
        · cases hf
        · exact T1 c x hf
        · exact T2 c x hf
        · exact T3 c x hf
        · exact T4 c x hf

end Go.Proofs.Ytfldcmdhneegmaa
